/- What every table of steps keeps to; what follows for a name at an epoch. (No program in it, but for RAll's and RSorted's insertions.) -/
import Derived.Test.YthjcmagionaepaaMAll
import Derived.Test.YthjcmagionaepaaMTb
namespace Go.Proofs.Ythjcmagionaepaa
open Go.RowKit Kit
set_option linter.unusedVariables false

/-- A row that steps made, no later than the last epoch. -/
structure RowOk (last : Int) (r : Rw) : Prop where
  b1 : 1 ≤ r.born
  bl : r.born ≤ last
  dl : r.died ≤ last
  bd : r.died = 0 ∨ r.born ≤ r.died
  ino : 1 ≤ r.ino
  name : r.name ≠ ⟨#[]⟩
/-- Of a name: the next one begins where the one ahead has ended. -/
def Nxt (a b : Rw) : Prop := a.name = b.name → a.died ≠ 0 ∧ a.died ≤ b.born
structure Inv (t : Tb) : Prop where
  row : ∀ r ∈ t.rs, RowOk t.last r
  nxt : t.rs.Pairwise Nxt
  last : 0 ≤ t.last ∧ t.last ≤ maxE
theorem inv0 : Inv tb0 := ⟨fun r h => by simp [tb0] at h, List.Pairwise.nil, by unfold maxE tb0; decide⟩
theorem RowOk.mono {l m : Int} {r : Rw} (h : RowOk l r) (hm : l ≤ m) : RowOk m r := ⟨h.b1, by have := h.bl; omega, by have := h.dl; omega, h.bd, h.ino, h.name⟩
theorem may_iff {last : Int} {name : ByteArray} {e : Int} (h : mayB last name e = true) : name ≠ ⟨#[]⟩ ∧ 1 ≤ e ∧ e ≤ maxE ∧ last ≤ e := by
  unfold mayB epochB at h
  simp only [Bool.and_eq_true, Bool.not_eq_true', decide_eq_false_iff_not, decide_eq_true_eq] at h
  exact ⟨h.1, h.2.1.1, h.2.1.2, h.2.2⟩
theorem open_iff {name : ByteArray} {r : Rw} : openP name r = true ↔ r.name = name ∧ r.died = 0 := by
  unfold openP
  rw [Bool.and_eq_true, decide_eq_true_eq, decide_eq_true_eq]
theorem inv_add {t : Tb} (h : Inv t) (name : ByteArray) (ino ep : Int) : Inv (addT t name ino ep) := by
  rcases add_cases t name ino ep with ⟨_, h2, _⟩ | ⟨_, h2, _⟩ | ⟨_, h2, h3, h4, h5⟩
  · rw [h2]; exact h
  · rw [h2]; exact h
  · rw [h2]
    obtain ⟨m1, m2, m3, m4⟩ := may_iff h3
    refine ⟨fun r hr => ?_, List.pairwise_append.2 ⟨h.nxt, List.pairwise_singleton _ _, fun a ha b hb e => ?_⟩, by have := h.last; show (0 : Int) ≤ ep; omega, m3⟩
    · rcases List.mem_append.1 hr with hr | hr
      · exact (h.row r hr).mono m4
      · rw [List.mem_singleton.1 hr]
        exact ⟨m2, Int.le_refl _, by show (0 : Int) ≤ ep; omega, .inl rfl, h4, m1⟩
    · rw [List.mem_singleton.1 hb] at e ⊢
      simp only at e ⊢
      have h6 : a.died ≠ 0 := fun x => by
        have : t.rs.any (openP name) = true := List.any_eq_true.2 ⟨a, ha, open_iff.2 ⟨e, x⟩⟩
        rw [h5] at this; cases this
      have h7 := (h.row a ha).dl
      exact ⟨h6, by omega⟩
theorem inv_rem {t : Tb} (h : Inv t) (name : ByteArray) (ep : Int) : Inv (remT t name ep) := by
  rcases rem_cases t name ep with ⟨_, h2, _⟩ | ⟨_, h2, _⟩ | ⟨_, h2, h3, h5⟩
  · rw [h2]; exact h
  · rw [h2]; exact h
  · rw [h2]
    obtain ⟨m1, m2, m3, m4⟩ := may_iff h3
    have hk := seatP_any.1 h5
    have ho := open_iff.1 ((seatP_at (openP name) t.rs).2 hk)
    unfold endR
    rw [dif_pos hk]
    generalize seatP (openP name) t.rs = k at hk ho
    have hrk := h.row _ (List.getElem_mem hk)
    refine ⟨fun r hr => ?_, ?_, by have := h.last; show (0 : Int) ≤ ep; omega, m3⟩
    · rcases List.mem_or_eq_of_mem_set hr with hr | hr
      · exact (h.row r hr).mono m4
      · rw [hr]
        exact ⟨hrk.b1, Int.le_trans hrk.bl m4, Int.le_refl _, .inr (Int.le_trans hrk.bl m4), hrk.ino, hrk.name⟩
    · refine List.pairwise_iff_getElem.2 fun i j hi hj hij => ?_
      rw [List.length_set] at hi hj
      have h6 := List.pairwise_iff_getElem.1 h.nxt i j hi hj hij
      rw [List.getElem_set, List.getElem_set]
      by_cases e1 : k = i
      · subst e1
        rw [if_pos rfl, if_neg (by omega)]
        intro e
        exact absurd ho.2 (h6 e).1
      · by_cases e2 : k = j
        · subst e2
          rw [if_neg e1, if_pos rfl]
          exact h6
        · rw [if_neg e1, if_neg e2]
          exact h6
theorem inv_clean {t : Tb} (h : Inv t) (es : List Int) : Inv (cleanT t es) :=
  ⟨fun r hr => h.row r (List.mem_filter.1 hr).1, h.nxt.filter _, h.last⟩
theorem hold_iff {b d e : Int} : holdsB b d e = true ↔ b ≤ e ∧ (d = 0 ∨ e < d) := by
  unfold holdsB
  rw [Bool.and_eq_true, Bool.or_eq_true, decide_eq_true_eq, decide_eq_true_eq, decide_eq_true_eq]
theorem find_iff {name : ByteArray} {e : Int} {r : Rw} : findP name e r = true ↔ r.name = name ∧ r.born ≤ e ∧ (r.died = 0 ∨ e < r.died) := by
  unfold findP
  rw [Bool.and_eq_true, decide_eq_true_eq, hold_iff]
/-- At one epoch a name leads to one inode. -/
theorem find_one {t : Tb} (h : Inv t) {name : ByteArray} {e : Int} : ∀ (i j : Nat) (hi : i < t.rs.length) (hj : j < t.rs.length), findP name e t.rs[i] = true → findP name e t.rs[j] = true → i = j := by
  have key : ∀ (i j : Nat) (hi : i < t.rs.length) (hj : j < t.rs.length), i < j → findP name e t.rs[i] = true → findP name e t.rs[j] = true → False := by
    intro i j hi hj hij h1 h2
    obtain ⟨a1, a2, a3⟩ := find_iff.1 h1
    obtain ⟨b1, b2, b3⟩ := find_iff.1 h2
    have h3 := List.pairwise_iff_getElem.1 h.nxt i j hi hj hij (a1.trans b1.symm)
    rcases a3 with a3 | a3
    · exact h3.1 a3
    · omega
  intro i j hi hj h1 h2
  rcases Nat.lt_trichotomy i j with h3 | h3 | h3
  · exact (key i j hi hj h3 h1 h2).elim
  · exact h3
  · exact (key j i hj hi h3 h2 h1).elim
theorem find_of {t : Tb} (h : Inv t) {name : ByteArray} {e : Int} {r : Rw} (hr : r ∈ t.rs) (hf : findP name e r = true) : foundI t.rs name e = r.ino ∧ foundB t.rs name e = true := by
  have hb : foundB t.rs name e = true := List.any_eq_true.2 ⟨r, hr, hf⟩
  refine ⟨?_, hb⟩
  have hs := seatP_any.1 hb
  obtain ⟨i, hi, rfl⟩ := List.mem_iff_getElem.1 hr
  have h1 := find_one h _ i hs hi ((seatP_at (findP name e) t.rs).2 hs) hf
  unfold foundI
  rw [find_seat hs]
  simp only [h1]
theorem found_iff {rs : List Rw} {name : ByteArray} {e : Int} : foundB rs name e = true ↔ ∃ r ∈ rs, findP name e r = true := List.any_eq_true
theorem found_not {rs : List Rw} {name : ByteArray} {e : Int} (h : foundB rs name e = false) : foundI rs name e = 0 := by
  unfold foundI
  rw [find_none fun hs => by
    have := seatP_any.2 hs
    rw [show rs.any (findP name e) = foundB rs name e from rfl, h] at this
    cases this]
/-- Births rise, name by name. -/
theorem inv_born {t : Tb} (h : Inv t) : t.rs.Pairwise fun a b => a.name = b.name → a.born ≤ b.born := by
  have h1 := h.nxt
  rw [List.pairwise_iff_getElem] at h1 ⊢
  intro i j hi hj hij e
  have h2 := h1 i j hi hj hij e
  rcases (h.row _ (List.getElem_mem hi)).bd with h3 | h3
  · exact absurd h3 h2.1
  · omega
/-- The rows that hold at an epoch decide what is found. -/
theorem found_holds (rs : List Rw) (name : ByteArray) (e : Int) : foundB rs name e = (rs.filter fun r => holdsB r.born r.died e).any (ofN name) ∧ foundI rs name e = match (rs.filter fun r => holdsB r.born r.died e).find? (ofN name) with | some r => r.ino | none => 0 := by
  constructor
  · unfold foundB
    rw [List.any_filter]
    apply List.any_congr rfl
    intro r
    unfold findP ofN
    exact Bool.and_comm _ _
  · unfold foundI
    rw [List.find?_filter]
    have : (fun a : Rw => decide (holdsB a.born a.died e = true ∧ ofN name a = true)) = findP name e := by
      funext r
      rw [Bool.eq_iff_iff, decide_eq_true_eq, find_iff, hold_iff, ofN_iff]
      exact ⟨fun ⟨a, b⟩ => ⟨b, a⟩, fun ⟨a, b⟩ => ⟨b, a⟩⟩
    rw [this]
    rfl
/-- What is not needed at some epochs holds at none of them, nor from the last one on. -/
theorem kept_holds {t : Tb} (h : Inv t) (es : List Int) (e : Int) (he : e ∈ es ∨ t.last ≤ e) : (keptR t.rs es).filter (fun r => holdsB r.born r.died e) = t.rs.filter fun r => holdsB r.born r.died e := by
  unfold keptR
  rw [List.filter_filter]
  apply List.filter_congr
  intro r hr
  cases k : holdsB r.born r.died e with
  | false => rfl
  | true =>
    have : needB r.born r.died es = true := by
      rcases he with he | he
      · exact need_at he k
      · have h1 := (hold_iff.1 k).2
        have h2 := (h.row r hr).dl
        rcases h1 with h1 | h1
        · unfold needB; rw [h1]; simp
        · omega
    rw [this]; rfl
theorem kept_found {t : Tb} (h : Inv t) (es : List Int) (name : ByteArray) (e : Int) (he : e ∈ es ∨ t.last ≤ e) : foundB (cleanT t es).rs name e = foundB t.rs name e ∧ foundI (cleanT t es).rs name e = foundI t.rs name e := by
  have h1 := kept_holds h es e he
  have h2 := found_holds (keptR t.rs es) name e
  have h3 := found_holds t.rs name e
  rw [h1] at h2
  exact ⟨h2.1.trans h3.1.symm, h2.2.trans h3.2.symm⟩
theorem kept_again (rs : List Rw) (es : List Int) : keptR (keptR rs es) es = keptR rs es := by
  unfold keptR
  rw [List.filter_filter]
  apply List.filter_congr
  intro r _
  exact Bool.and_self _
theorem clean_again (t : Tb) (es : List Int) : cleanN (cleanT t es) es = 0 := by
  show ((keptR t.rs es).length : Int) - ((keptR (keptR t.rs es) es).length : Int) = 0
  rw [kept_again]
  omega
/-- All: rows of one name stand as they came. -/
theorem all_nxt {t : Tb} (h : Inv t) : (allW t.rs).Pairwise Nxt := by
  have key : ∀ (L : List Rw), (∀ n, (L.filter (ofN n)).Pairwise Nxt) → L.Pairwise Nxt := by
    intro L
    induction L with
    | nil => intro _; exact List.Pairwise.nil
    | cons a L ih =>
      intro hL
      refine List.pairwise_cons.2 ⟨fun b hb e => ?_, ih fun n => ?_⟩
      · have h1 := hL a.name
        rw [List.filter_cons_of_pos (ofN_iff.2 rfl)] at h1
        exact (List.pairwise_cons.1 h1).1 b (List.mem_filter.2 ⟨hb, ofN_iff.2 e.symm⟩) e
      · have h1 := hL n
        by_cases k : ofN n a = true
        · rw [List.filter_cons_of_pos k] at h1
          exact (List.pairwise_cons.1 h1).2
        · rw [List.filter_cons_of_neg k] at h1
          exact h1
  apply key
  intro n
  rw [allW_name (inv_born h)]
  exact h.nxt.filter _
end Go.Proofs.Ythjcmagionaepaa
