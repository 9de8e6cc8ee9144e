/- Paths and their names: Split and Join of the reference undo each other; what stands under what. (No walk in it.) -/
import Derived.Test.YtlnhkdiecfccaaaDoorRUnder
namespace Go.Proofs.YtlnhkdiecfccaaaDoor
open Go.RowKit Kit
set_option linter.unusedVariables false

theorem bytesOf_inj {a b : ByteArray} (h : bytesOf a = bytesOf b) : a = b := by rw [← strOf_bytesOf a, h, strOf_bytesOf]
theorem bytesOf_append (a b : ByteArray) : bytesOf (a ++ b) = bytesOf a ++ bytesOf b := by
  unfold bytesOf
  rw [ByteArray.data_append, Array.toList_append, List.map_append]
theorem bytesOf_strOf {zs : List Int} (h : bytesIn zs) : bytesOf (strOf zs) = zs := strOf_inj (bytesOf_in _) h (strOf_bytesOf _)
theorem bytesOf_extract (s : ByteArray) : bytesOf (s.extract 1 s.size) = (bytesOf s).drop 1 := by
  rw [extract_strOf, List.take_of_length_le (by rw [List.length_drop, bytesOf_len]; exact Nat.le_refl _), bytesOf_strOf (bytesIn_drop (bytesOf_in s) 1)]
/-- Names with a slash ahead of each. -/
def joinL (ps : List (List Int)) : List Int := ps.flatMap fun p => 47 :: p
theorem joinTo_bytes (l : List ByteArray) : ∀ k, k ≤ l.length → bytesOf (joinTo l k) = joinL ((l.take k).map bytesOf)
  | 0, _ => by simp [joinTo, joinL, bytesOf]
  | k + 1, h => by
    have h1 : k < l.length := by omega
    have e : bytesOf ⟨#[47]⟩ = [47] := rfl
    have e2 : l.getD k ⟨#[]⟩ = l[k] := by simp [List.getD, h1]
    rw [joinTo_step l k h1, bytesOf_append, bytesOf_append, joinTo_bytes l k (by omega), List.take_add_one, List.getElem?_eq_getElem h1, e2]
    rw [Option.toList_some, List.map_append, List.map_cons, List.map_nil]
    unfold joinL
    rw [List.flatMap_append, List.flatMap_cons, List.flatMap_nil, e]
    simp only [List.append_nil, List.append_assoc, List.singleton_append]
theorem joinL_cut : ∀ l : List Int, joinL (cutL 47 l) = 47 :: l
  | [] => rfl
  | x :: r => by
    have ih := joinL_cut r
    rw [cutL]
    split
    · rename_i h
      subst h
      show 47 :: ([] ++ joinL (cutL 47 r)) = _
      rw [ih]; rfl
    · split
      · rename_i h
        rw [h] at ih
        simp [joinL] at ih
      · rename_i p q h
        rw [h] at ih
        simp only [joinL, List.flatMap_cons, List.cons_append, List.cons.injEq, true_and] at ih ⊢
        rw [ih]
theorem cut_joinL : ∀ (p : List Int) (ps : List (List Int)), (∀ q ∈ p :: ps, ∀ x ∈ q, x ≠ 47) → cutL 47 ((joinL (p :: ps)).drop 1) = p :: ps
  | p, [], h => by
    simp only [joinL, List.flatMap_cons, List.flatMap_nil, List.append_nil, List.drop_succ_cons, List.drop_zero]
    exact cutL_free 47 p (h p (by simp))
  | p, q :: ps, h => by
    have ih := cut_joinL q ps (fun r hr => h r (by simp [List.mem_cons.1 hr]))
    have e : (joinL (p :: q :: ps)).drop 1 = p ++ 47 :: (joinL (q :: ps)).drop 1 := by simp [joinL]
    rw [e, cutL_at 47 _ p (h p (by simp)), ih]
theorem split_ok {s : ByteArray} (h : (splitB s).2 = 0) : (s = ⟨#[47]⟩ ∧ (splitB s).1 = []) ∨ (¬ s = ⟨#[47]⟩ ∧ s.size ≤ 200 ∧ (bytesOf s).getD 0 0 = 47 ∧ ¬ s = ⟨#[]⟩ ∧ (splitB s).1 = partsB s ∧ (partsB s).all okB = true ∧ (partsB s).any longB = false ∧ (partsB s).length ≤ 6) := by
  unfold splitB at h ⊢
  split at h
  · rename_i h1; left; rw [if_pos h1]; exact ⟨h1, rfl⟩
  · rename_i h1
    right
    rw [if_neg h1]
    split at h
    · exact absurd h (by decide)
    · rename_i h2
      rw [if_neg h2]
      split at h
      · exact absurd h (by decide)
      · rename_i h3
        rw [if_neg h3]
        split at h
        · exact absurd h (by decide)
        · rename_i h4
          rw [if_neg h4]
          split at h
          · exact absurd h (by decide)
          · rename_i h5
            rw [if_neg h5]
            refine ⟨h1, ?_, ?_, fun e => h2 (.inl e), rfl, by simpa using h3, by simpa using h4, by omega⟩
            · rcases Nat.lt_or_ge 200 s.size with h6 | h6
              · exact absurd (.inr (.inl h6)) h2
              · exact h6
            · by_cases h6 : (bytesOf s).getD 0 0 = 47
              · exact h6
              · exact absurd (.inr (.inr h6)) h2
theorem cutL_ne (c : Int) : ∀ l, cutL c l ≠ []
  | [] => by simp [cutL]
  | x :: r => by
    rw [cutL]
    split
    · simp
    · split <;> simp
theorem cutL_in (c : Int) : ∀ l : List Int, bytesIn l → ∀ p ∈ cutL c l, bytesIn p
  | [], _, p, hp => by simp [cutL] at hp; subst hp; intro z hz; simp at hz
  | x :: r, h, p, hp => by
    have hr : bytesIn r := fun z hz => h z (by simp [hz])
    have ih := cutL_in c r hr
    rw [cutL] at hp
    split at hp
    · rcases List.mem_cons.1 hp with rfl | hp
      · intro z hz; simp at hz
      · exact ih p hp
    · split at hp
      · simp at hp; subst hp; intro z hz; simp at hz; subst hz; exact h z (by simp)
      · rename_i q qs e
        rw [e] at ih
        rcases List.mem_cons.1 hp with rfl | hp
        · intro z hz
          rcases List.mem_cons.1 hz with rfl | hz
          · exact h z (by simp)
          · exact ih q (by simp) z hz
        · exact ih p (by simp [hp])
/-- The names of a path, joined, are the path. -/
theorem join_split {s : ByteArray} (h : (splitB s).2 = 0) : joinB (splitB s).1 = s := by
  rcases split_ok h with ⟨h1, h2⟩ | ⟨h1, h2, h3, h4, h5, _⟩
  · rw [h2, h1]; rfl
  · rw [h5]
    have hn : (partsB s).length ≠ 0 := by
      unfold partsB
      rw [List.length_map]
      intro e
      exact cutL_ne _ _ (List.eq_nil_of_length_eq_zero e)
    unfold joinB
    rw [if_neg hn]
    apply bytesOf_inj
    rw [joinTo_bytes _ _ (Nat.le_refl _), List.take_length]
    have e : (partsB s).map bytesOf = cutL 47 ((bytesOf s).drop 1) := by
      unfold partsB
      rw [bytesOf_extract, List.map_map]
      have : ∀ p ∈ cutL 47 ((bytesOf s).drop 1), (bytesOf ∘ strOf) p = p := fun p hp => bytesOf_strOf (cutL_in _ _ (bytesIn_drop (bytesOf_in s) 1) p hp)
      rw [List.map_congr_left this]; simp
    rw [e, joinL_cut]
    have hs := size_pos h4
    have h6 : 0 < (bytesOf s).length := by rw [bytesOf_len]; exact hs
    have h7 : (bytesOf s).drop 0 = (bytesOf s)[0] :: (bytesOf s).drop 1 := List.drop_eq_getElem_cons h6
    have h8 : (bytesOf s)[0] = 47 := by simpa [List.getD, h6] using h3
    rw [List.drop_zero, h8] at h7
    exact h7.symm
theorem parts_join (l : List ByteArray) (h0 : l.length ≠ 0) (hf : ∀ q ∈ l, ∀ x ∈ bytesOf q, x ≠ 47) : partsB (joinB l) = l := by
  cases l with
  | nil => simp at h0
  | cons a r =>
    unfold joinB
    rw [if_neg h0]
    unfold partsB
    rw [bytesOf_extract, joinTo_bytes _ _ (Nat.le_refl _), List.take_length, List.map_cons, cut_joinL]
    · rw [← List.map_cons, List.map_map]
      have : ∀ q ∈ a :: r, (strOf ∘ bytesOf) q = q := fun q _ => strOf_bytesOf q
      rw [List.map_congr_left this]; simp
    · intro q hq
      rw [← List.map_cons] at hq
      obtain ⟨p, hp, rfl⟩ := List.mem_map.1 hq
      exact hf p hp
theorem ok_free {q : ByteArray} (h : okB q = true) : ∀ x ∈ bytesOf q, x ≠ 47 := by
  intro x hx e
  unfold okB at h
  simp only [Bool.and_eq_true, List.all_eq_true] at h
  have := h.2 x hx
  rw [e] at this
  exact absurd this (by decide)
/-- What a path of such names is told to be. -/
theorem split_join_any (l : List ByteArray) (h0 : l.length ≠ 0) (hf : ∀ q ∈ l, ∀ x ∈ bytesOf q, x ≠ 47) (h1 : ¬ joinB l = ⟨#[47]⟩) (hs : (joinB l).size ≤ 200) :
    splitB (joinB l) = if l.all okB = false then ([], 2) else if l.any longB = true then ([], 3) else if 6 < l.length then ([], 4) else (l, 0) := by
  have hb : bytesOf (joinB l) = joinL (l.map bytesOf) := by
    unfold joinB
    rw [if_neg h0, joinTo_bytes _ _ (Nat.le_refl _), List.take_length]
  unfold splitB
  rw [if_neg h1, if_neg, parts_join l h0 hf]
  rintro (h | h | h)
  · rw [h] at hb
    cases l with
    | nil => simp at h0
    | cons a r => simp [joinL, bytesOf] at hb
  · omega
  · rw [hb] at h
    cases l with
    | nil => simp at h0
    | cons a r => simp [joinL] at h
theorem joinB_size {l : List ByteArray} (h0 : l.length ≠ 0) : (joinB l).size = tot l := by
  unfold joinB
  rw [if_neg h0, joinTo_size l _ (Nat.le_refl _), List.take_length]
/-- Names that may be, six at most: they come back. -/
theorem split_join {l : List ByteArray} (h1 : l.all okB = true) (h2 : l.any longB = false) (h3 : l.length ≤ 6) : splitB (joinB l) = (l, 0) := by
  by_cases h0 : l.length = 0
  · have e : l = [] := List.eq_nil_of_length_eq_zero h0
    subst e
    rfl
  · have hq : ∀ q ∈ l, okB q = true := List.all_eq_true.1 h1
    have hsz : ∀ q ∈ l, q.size ≤ 12 := fun q hm => by
      rw [List.any_eq_false] at h2
      have := h2 q hm
      unfold longB at this
      simpa using this
    have ht := tot_small l hsz
    have hj := joinB_size h0
    rw [split_join_any l h0 (fun q hm => ok_free (hq q hm)) ?_ (by omega), h1, h2]
    · simp; omega
    · intro e
      have e1 : (joinB l).size = 1 := by rw [e]; rfl
      cases l with
      | nil => simp at h0
      | cons a r =>
        have ha := hq a (by simp)
        have : 0 < a.size := size_pos (fun e => by rw [e] at ha; exact absurd ha (by decide))
        rw [hj] at e1
        simp [tot] at e1
        omega
theorem names_ok {s : ByteArray} (h : (splitB s).2 = 0) : (splitB s).1.all okB = true ∧ (splitB s).1.any longB = false ∧ (splitB s).1.length ≤ 6 := by
  rcases split_ok h with ⟨_, h2⟩ | ⟨_, _, _, _, h5, h6, h7, h8⟩
  · rw [h2]; simp
  · rw [h5]; exact ⟨h6, h7, h8⟩
theorem split_take {s : ByteArray} (h : (splitB s).2 = 0) (k : Nat) : splitB (joinB ((splitB s).1.take k)) = ((splitB s).1.take k, 0) := by
  obtain ⟨h1, h2, h3⟩ := names_ok h
  refine split_join ?_ ?_ (by rw [List.length_take]; omega)
  · rw [List.all_eq_true] at *
    exact fun q hq => h1 q (List.mem_of_mem_take hq)
  · rw [List.any_eq_false] at *
    exact fun q hq => h2 q (List.mem_of_mem_take hq)
theorem under_self (s : ByteArray) : underB s s = decide ((splitB s).2 = 0) := by simp [underB]
theorem under_root (s : ByteArray) : underB s ⟨#[47]⟩ = decide ((splitB s).2 = 0) := by
  have e : splitB ⟨#[47]⟩ = ([], 0) := rfl
  simp [underB, e]
theorem under_trans {a b c : ByteArray} (h : underB a b = true) (k : underB b c = true) : underB a c = true := by
  unfold underB at *
  obtain ⟨h1, h2, h3⟩ := of_decide_eq_true h
  obtain ⟨k1, k2, k3⟩ := of_decide_eq_true k
  refine decide_eq_true ⟨h1, k2, ?_⟩
  have hl : (splitB c).1.length ≤ (splitB b).1.length := by
    have := congrArg List.length k3
    simp at this; omega
  rw [← h3, List.take_take, Nat.min_eq_left hl] at k3
  exact k3
theorem under_anti {a b : ByteArray} (h : underB a b = true) (k : underB b a = true) : a = b := by
  unfold underB at *
  obtain ⟨h1, h2, h3⟩ := of_decide_eq_true h
  obtain ⟨_, _, k3⟩ := of_decide_eq_true k
  have l1 : (splitB b).1.length ≤ (splitB a).1.length := by have := congrArg List.length h3; simp at this; omega
  have l2 : (splitB a).1.length ≤ (splitB b).1.length := by have := congrArg List.length k3; simp at this; omega
  have e : (splitB a).1 = (splitB b).1 := by
    rw [List.take_of_length_le (by omega)] at h3; exact h3
  rw [← join_split h1, e, join_split h2]
/-- The parent: the path stands under it, it doesn't stand under the path. -/
theorem parent_under {s : ByteArray} (h : (splitB s).2 = 0) (h0 : (splitB s).1.length ≠ 0) :
    parentB s = (joinB ((splitB s).1.take ((splitB s).1.length - 1)), (splitB s).1.getD ((splitB s).1.length - 1) ⟨#[]⟩, 0) ∧
    underB s (joinB ((splitB s).1.take ((splitB s).1.length - 1))) = true ∧ underB (joinB ((splitB s).1.take ((splitB s).1.length - 1))) s = false := by
  refine ⟨by unfold parentB; rw [if_neg (by simp [h]), if_neg h0], ?_, ?_⟩
  · unfold underB
    rw [split_take h]
    refine decide_eq_true ⟨h, rfl, ?_⟩
    simp
  · unfold underB
    rw [split_take h]
    refine decide_eq_false ?_
    rintro ⟨_, _, e⟩
    have := congrArg List.length e
    simp at this
    omega
end Go.Proofs.YtlnhkdiecfccaaaDoor
