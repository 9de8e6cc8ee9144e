/- Pieces: joining, one more. (No program in it.) -/
import Derived.Test.YthdmclhccbjgoaaMExt3
namespace Go.Proofs.Ythdmclhccbjgoaa
open Go.RowKit Kit
set_option linter.unusedVariables false

theorem join1_ne : ∀ (l : List Pc) (q : Pc), join1 q l ≠ []
  | [], q => by simp [join1]
  | p :: l, q => by
    unfold join1
    split
    · exact join1_ne l _
    · simp
theorem set_last (J : List Pc) (h : J ≠ []) (y : Pc) : J.set (J.length - 1) y = J.dropLast ++ [y] := by
  have e := List.dropLast_concat_getLast h
  have hl : J.length = J.dropLast.length + 1 := by rw [List.length_dropLast]; have := List.length_pos_iff.2 h; omega
  rw [hl, Nat.add_sub_cancel]
  conv => lhs; rw [← e]
  rw [List.set_append_right _ _ (by simp)]
  simp
theorem join1_snoc : ∀ (l : List Pc) (q p : Pc), join1 q (l ++ [p]) = if touchB ((join1 q l).getLast (join1_ne l q)) p then (join1 q l).dropLast ++ [{ (join1 q l).getLast (join1_ne l q) with len := ((join1 q l).getLast (join1_ne l q)).len + p.len }] else join1 q l ++ [p]
  | [], q, p => by simp [join1]
  | z :: l, q, p => by
    rw [List.cons_append]
    by_cases ht : touchB q z = true
    · have e1 : join1 q (z :: l) = join1 { q with len := q.len + z.len } l := by conv => lhs; unfold join1; rw [if_pos ht]
      have e2 : join1 q (z :: (l ++ [p])) = join1 { q with len := q.len + z.len } (l ++ [p]) := by conv => lhs; unfold join1; rw [if_pos ht]
      simp only [e1, e2]
      exact join1_snoc l _ p
    · have e1 : join1 q (z :: l) = q :: join1 z l := by conv => lhs; unfold join1; rw [if_neg ht]
      have e2 : join1 q (z :: (l ++ [p])) = q :: join1 z (l ++ [p]) := by conv => lhs; unfold join1; rw [if_neg ht]
      simp only [e1, e2, join1_snoc l z p, List.getLast_cons (join1_ne l z), List.dropLast_cons_of_ne_nil (join1_ne l z)]
      split <;> simp
theorem join_nil {l : List Pc} (h : (joinB l).length = 0) : l = [] := by
  cases l with
  | nil => rfl
  | cons q l => exact absurd (List.eq_nil_of_length_eq_zero h) (join1_ne l q)
/-- One more, onto what is joined. -/
theorem join_app (l : List Pc) (p : Pc) :
    ((joinB l).length = 0 → joinB (l ++ [p]) = joinB l ++ [p]) ∧
    ∀ h : 0 < (joinB l).length, (touchB (joinB l)[(joinB l).length - 1] p = true → joinB (l ++ [p]) = (joinB l).set ((joinB l).length - 1) { (joinB l)[(joinB l).length - 1] with len := (joinB l)[(joinB l).length - 1].len + p.len }) ∧
      (touchB (joinB l)[(joinB l).length - 1] p = false → joinB (l ++ [p]) = joinB l ++ [p]) := by
  refine ⟨fun h0 => ?_, fun h => ?_⟩
  · rw [join_nil h0]; rfl
  · cases l with
    | nil => simp [joinB] at h
    | cons q l =>
      have e1 : joinB (q :: l) = join1 q l := rfl
      have e2 : joinB (q :: l ++ [p]) = join1 q (l ++ [p]) := rfl
      rw [e2, join1_snoc]
      simp only [e1]
      have hg : (join1 q l)[(join1 q l).length - 1]'(by have := List.length_pos_iff.2 (join1_ne l q); omega) = (join1 q l).getLast (join1_ne l q) := (List.getLast_eq_getElem (join1_ne l q)).symm
      simp only [hg]
      refine ⟨fun ht => ?_, fun ht => ?_⟩
      · rw [if_pos ht, set_last _ (join1_ne l q)]
      · rw [if_neg (by rw [ht]; simp)]
theorem join_snoc (ps : List Pc) (i : Nat) (hi : i < ps.length) :
    ((joinB (ps.take i)).length = 0 → joinB (ps.take (i + 1)) = joinB (ps.take i) ++ [ps[i]]) ∧
    ∀ h : 0 < (joinB (ps.take i)).length, (touchB (joinB (ps.take i))[(joinB (ps.take i)).length - 1] ps[i] = true → joinB (ps.take (i + 1)) = (joinB (ps.take i)).set ((joinB (ps.take i)).length - 1) { (joinB (ps.take i))[(joinB (ps.take i)).length - 1] with len := (joinB (ps.take i))[(joinB (ps.take i)).length - 1].len + ps[i].len }) ∧
      (touchB (joinB (ps.take i))[(joinB (ps.take i)).length - 1] ps[i] = false → joinB (ps.take (i + 1)) = joinB (ps.take i) ++ [ps[i]]) := by
  rw [List.take_succ_eq_append_getElem hi]
  exact join_app _ _
theorem join_step (ps : List Pc) (i : Nat) (hi : i < ps.length) (J : List Pc) (hJ : J = joinB (ps.take i)) (p : Pc) (hp : p = ps[i]) :
    (J.length = 0 → joinB (ps.take (i + 1)) = J ++ [p]) ∧ ∀ (m : Nat) (hm : J.length = m + 1) (q : Pc), q = J[m] → (touchB q p = true → joinB (ps.take (i + 1)) = J.set m { q with len := q.len + p.len }) ∧ (touchB q p = false → joinB (ps.take (i + 1)) = J ++ [p]) := by
  subst hJ hp
  obtain ⟨h1, h2⟩ := join_snoc ps i hi
  refine ⟨h1, fun m hm q hq => ?_⟩
  have e : (joinB (ps.take i)).length - 1 = m := by omega
  have h3 := h2 (by omega)
  simp only [e] at h3
  subst hq
  exact h3
end Go.Proofs.Ythdmclhccbjgoaa
