/- A run of steps. -/
import Derived.Test.YthjcmagionaepaaMInv
import Derived.Test.YthjcmagionaepaaLStepsT
import Derived.Test.YthjcmagionaepaaRTabN
namespace Go.Proofs.Ythjcmagionaepaa
open Go.RowKit Kit
set_option linter.unusedVariables false

/-- One step, and many. -/
def stepT (t : Tb) (s : Ts) : Tb := if s.kind = 1 then addT t s.name s.ino s.ep else if s.kind = 2 then remT t s.name s.ep else if s.kind = 3 then cleanT t s.es else t
def playT (ss : List Ts) : Tb := ss.foldl stepT tb0
theorem step_add {t : Tb} {s : Ts} (h : s.kind = 1) : stepT t s = addT t s.name s.ino s.ep := by unfold stepT; rw [if_pos h]
theorem step_rem {t : Tb} {s : Ts} (h : s.kind = 2) : stepT t s = remT t s.name s.ep := by unfold stepT; rw [if_neg (by omega), if_pos h]
theorem step_clean {t : Tb} {s : Ts} (h : s.kind = 3) : stepT t s = cleanT t s.es := by unfold stepT; rw [if_neg (by omega), if_neg (by omega), if_pos h]
theorem step_none {t : Tb} {s : Ts} (h1 : ¬ s.kind = 1) (h2 : ¬ s.kind = 2) (h3 : ¬ s.kind = 3) : stepT t s = t := by unfold stepT; rw [if_neg h1, if_neg h2, if_neg h3]
theorem step_inv {t : Tb} (h : Inv t) (s : Ts) : Inv (stepT t s) := by
  unfold stepT
  split
  · exact inv_add h _ _ _
  · split
    · exact inv_rem h _ _
    · split
      · exact inv_clean h _
      · exact h
theorem step_len (t : Tb) (s : Ts) : (stepT t s).rs.length ≤ t.rs.length + 1 := by
  unfold stepT
  split
  · exact addT_len _ _ _ _
  · split
    · rw [remT_len]; omega
    · split
      · have := keptR_len t.rs s.es
        show (keptR t.rs s.es).length ≤ _
        omega
      · omega
theorem play_next (ss : List Ts) (i : Nat) (h : i < ss.length) : playT (ss.take (i + 1)) = stepT (playT (ss.take i)) ss[i] := by
  unfold playT
  rw [List.take_succ_eq_append_getElem h, List.foldl_append]
  rfl
theorem fold_inv : ∀ (ss : List Ts) (t : Tb), Inv t → Inv (ss.foldl stepT t)
  | [], t, h => h
  | s :: ss, t, h => fold_inv ss _ (step_inv h s)
theorem play_inv (ss : List Ts) : Inv (playT ss) := fold_inv ss tb0 inv0
theorem fold_lenT : ∀ (ss : List Ts) (t : Tb), (ss.foldl stepT t).rs.length ≤ t.rs.length + ss.length
  | [], t => by simp
  | s :: ss, t => by
    have h1 := fold_lenT ss (stepT t s)
    have h2 := step_len t s
    rw [List.foldl_cons, List.length_cons]
    omega
theorem play_len (ss : List Ts) : (playT ss).rs.length ≤ ss.length := by
  have h := fold_lenT ss tb0
  have h0 : tb0.rs.length = 0 := rfl
  rw [h0, Nat.zero_add] at h
  exact h
theorem endR_names (rs : List Rw) (name : ByteArray) (e : Int) : (endR rs name e).map Rw.name = rs.map Rw.name := by
  unfold endR
  split
  · rw [List.map_set]
    apply List.ext_getElem?
    intro j
    rw [List.getElem?_set]
    split
    · subst_vars
      rename_i h
      rw [if_pos (by rw [List.length_map]; exact h), List.getElem?_map, List.getElem?_eq_getElem h]
      rfl
    · rfl
  · rfl
theorem step_names (t : Tb) (s : Ts) (n : ByteArray) (h : n ∈ (stepT t s).rs.map Rw.name) : n ∈ t.rs.map Rw.name ∨ n = s.name := by
  unfold stepT at h
  split at h
  · rcases add_cases t s.name s.ino s.ep with ⟨_, h2, _⟩ | ⟨_, h2, _⟩ | ⟨_, h2, _⟩ <;> rw [h2] at h
    · exact .inl h
    · exact .inl h
    · rw [List.map_append, List.mem_append] at h
      exact h.imp id fun h => by simpa using h
  · split at h
    · rcases rem_cases t s.name s.ep with ⟨_, h2, _⟩ | ⟨_, h2, _⟩ | ⟨_, h2, _⟩ <;> rw [h2] at h
      · exact .inl h
      · exact .inl h
      · have h3 := endR_names t.rs s.name s.ep
        simp only at h
        rw [h3] at h
        exact .inl h
    · split at h
      · obtain ⟨r, hr, e⟩ := List.mem_map.1 h
        exact .inl (List.mem_map.2 ⟨r, (List.mem_filter.1 hr).1, e⟩)
      · exact .inl h
theorem fold_names : ∀ (ss : List Ts) (t : Tb) (n : ByteArray), n ∈ (ss.foldl stepT t).rs.map Rw.name → n ∈ t.rs.map Rw.name ∨ n ∈ ss.map Ts.name
  | [], t, n, h => .inl h
  | s :: ss, t, n, h => by
    rcases fold_names ss _ n h with h1 | h1
    · rcases step_names t s n h1 with h2 | h2
      · exact .inl h2
      · exact .inr (by rw [h2]; simp)
    · exact .inr (List.mem_cons_of_mem _ h1)
theorem play_names (ss : List Ts) (n : ByteArray) (h : n ∈ (playT ss).rs.map Rw.name) : n ∈ ss.map Ts.name := by
  rcases fold_names ss tb0 n h with h1 | h1
  · simp [tb0] at h1
  · exact h1
/-- Who has a name at an epoch. -/
def heldN (rs : List Rw) (e : Int) : List ByteArray := sortedB (namesW (fun t => holdsB t.born t.died e) rs)
theorem held_mem (rs : List Rw) (e : Int) (n : ByteArray) : n ∈ heldN rs e ↔ foundB rs n e = true := by
  unfold heldN
  rw [sorted_mem]
  unfold namesW
  rw [found_iff]
  simp only [List.mem_map, List.mem_filter]
  constructor
  · rintro ⟨r, ⟨h1, h2⟩, h3⟩
    exact ⟨r, h1, find_iff.2 ⟨h3, hold_iff.1 h2⟩⟩
  · rintro ⟨r, h1, h2⟩
    obtain ⟨h3, h4⟩ := find_iff.1 h2
    exact ⟨r, ⟨h1, hold_iff.2 h4⟩, h3⟩
/-- Of all names, in order, those that are found. -/
theorem held_filter (rs : List Rw) (e : Int) (all : List ByteArray) (h : ∀ n ∈ rs.map Rw.name, n ∈ all) : heldN rs e = (sortedB all).filter fun n => foundB rs n e := by
  apply rising_ext
  · exact sorted_rising _
  · exact (sorted_rising all).filter _
  · intro y
    rw [held_mem, List.mem_filter, sorted_mem]
    constructor
    · intro h1
      obtain ⟨r, hr, h2⟩ := found_iff.1 h1
      exact ⟨h y (List.mem_map.2 ⟨r, hr, (find_iff.1 h2).1⟩), h1⟩
    · exact fun h1 => h1.2
theorem held_len (rs : List Rw) (e : Int) : (heldN rs e).length ≤ rs.length := Nat.le_trans (sorted_len _) (namesW_len _ _)
/-- Cleaned, the names at what it was given and from the last epoch on are the same. -/
theorem kept_held {t : Tb} (h : Inv t) (es : List Int) (e : Int) (he : e ∈ es ∨ t.last ≤ e) : heldN (cleanT t es).rs e = heldN t.rs e := by
  unfold heldN namesW
  have h1 := kept_holds h es e he
  show sortedB (((keptR t.rs es).filter fun t => holdsB t.born t.died e).map Rw.name) = _
  rw [h1]
end Go.Proofs.Ythjcmagionaepaa
