/- What the laws of names ask, over a run's mathematics. -/
import Derived.Test.YthjcmagionaepaaMRun
namespace Go.Proofs.Ythjcmagionaepaa
open Go.RowKit Kit
set_option linter.unusedVariables false

/-- TableOne: neighbours in All. -/
theorem all_pair {t : Tb} (h : Inv t) (i : Nat) (hi : i + 1 < (allW t.rs).length) :
    ¬ less (allW t.rs)[i + 1].name ((allW t.rs)[i]'(by omega)).name ∧ ((allW t.rs)[i + 1].name = ((allW t.rs)[i]'(by omega)).name → ((allW t.rs)[i]'(by omega)).died ≠ 0 ∧ ((allW t.rs)[i]'(by omega)).died ≤ (allW t.rs)[i + 1].born) := by
  have h1 := List.pairwise_iff_getElem.1 (allW_order t.rs) i (i + 1) (by omega) hi (by omega)
  have h2 := List.pairwise_iff_getElem.1 (all_nxt h) i (i + 1) (by omega) hi (by omega)
  exact ⟨fun x => h1 (.inl x), fun e => h2 e.symm⟩
/-- TableOne: each that is not empty is found at its birth. -/
theorem all_found {t : Tb} (h : Inv t) {r : Rw} (hr : r ∈ allW t.rs) (hne : r.died ≠ r.born) : foundI t.rs r.name r.born = r.ino ∧ foundB t.rs r.name r.born = true := by
  have hm := (allW_mem t.rs r).1 hr
  have h1 := h.row r hm
  refine find_of h hm (find_iff.2 ⟨rfl, Int.le_refl _, ?_⟩)
  rcases h1.bd with h2 | h2
  · exact .inl h2
  · exact .inr (by omega)
/-- TableTimes: the epochs of one name, given and taken again and again. -/
def tmE (d : Nat → Int) : Nat → Int
  | 0 => 1
  | i + 1 => tmE d i + 1 + d i + (i % 2 : Nat)
def tmR (d : Nat → Int) (x : ByteArray) (k : Nat) : List Rw := (List.range k).map fun i : Nat => (⟨x, (i : Int) + 1, tmE d i, tmE d i + 1 + d i⟩ : Rw)
def tmT (d : Nat → Int) (x : ByteArray) (k : Nat) : Tb := ⟨tmR d x k, match k with | 0 => 0 | k + 1 => tmE d k + 1 + d k⟩
theorem tmR_len (d : Nat → Int) (x : ByteArray) (k : Nat) : (tmR d x k).length = k := by unfold tmR; simp
theorem tmR_at (d : Nat → Int) (x : ByteArray) (k i : Nat) (h : i < (tmR d x k).length) : (tmR d x k)[i] = ⟨x, (i : Int) + 1, tmE d i, tmE d i + 1 + d i⟩ := by
  simp [tmR]
theorem tmR_next (d : Nat → Int) (x : ByteArray) (k : Nat) : tmR d x (k + 1) = tmR d x k ++ [⟨x, (k : Int) + 1, tmE d k, tmE d k + 1 + d k⟩] := by
  unfold tmR
  rw [List.range_succ, List.map_append]
  rfl
theorem tmE_pos (d : Nat → Int) (hd : ∀ i, 0 ≤ d i ∧ d i ≤ 4) : ∀ i : Nat, 1 + (i : Int) ≤ tmE d i ∧ tmE d i ≤ 1 + 6 * (i : Int)
  | 0 => by simp [tmE]
  | i + 1 => by
    have h := tmE_pos d hd i
    have h1 := hd i
    have h2 : i % 2 < 2 := Nat.mod_lt _ (by omega)
    rw [tmE]
    omega
theorem tmE_step (d : Nat → Int) (hd : ∀ i, 0 ≤ d i ∧ d i ≤ 4) (i : Nat) : tmE d i + 1 + d i ≤ tmE d (i + 1) := by
  rw [tmE]; omega
theorem tmE_up (d : Nat → Int) (hd : ∀ i, 0 ≤ d i ∧ d i ≤ 4) (i : Nat) : ∀ j, i < j → tmE d i + 1 + d i ≤ tmE d j
  | 0, h => by omega
  | j + 1, h => by
    by_cases e : i = j
    · subst e; exact tmE_step d hd i
    · have h1 := tmE_up d hd i j (by omega)
      have h2 := tmE_step d hd j
      have h3 := hd j
      omega
theorem tm_died (d : Nat → Int) (hd : ∀ i, 0 ≤ d i ∧ d i ≤ 4) (x : ByteArray) (k : Nat) (r : Rw) (h : r ∈ tmR d x k) : r.name = x ∧ r.died ≠ 0 ∧ r.died ≤ tmE d k := by
  obtain ⟨i, hi, rfl⟩ := List.mem_iff_getElem.1 h
  have hik := hi
  rw [tmR_len] at hik
  rw [tmR_at d x k i hi]
  have h1 := tmE_pos d hd i
  have h2 := hd i
  exact ⟨rfl, by show tmE d i + 1 + d i ≠ 0; omega, tmE_up d hd i k hik⟩
theorem tm_last (d : Nat → Int) (hd : ∀ i, 0 ≤ d i ∧ d i ≤ 4) (x : ByteArray) (k : Nat) : (tmT d x k).last ≤ tmE d k := by
  cases k with
  | zero => simp [tmT, tmE]
  | succ k => exact tmE_step d hd k
theorem tm_may {d : Nat → Int} (hd : ∀ i, 0 ≤ d i ∧ d i ≤ 4) {last e : Int} {x : ByteArray} (hx : x ≠ ⟨#[]⟩) (h1 : 1 ≤ e) (h2 : e ≤ 1000) (h3 : last ≤ e) : mayB last x e = true := by
  unfold mayB epochB maxE
  rw [decide_eq_false hx, decide_eq_true h3, decide_eq_true (show 1 ≤ e ∧ e ≤ 1099511627776 by omega)]
  rfl
theorem tm_none {d : Nat → Int} (hd : ∀ i, 0 ≤ d i ∧ d i ≤ 4) (x : ByteArray) (k : Nat) : (tmR d x k).any (openP x) = false := by
  rw [Bool.eq_false_iff]
  intro h
  obtain ⟨r, hr, h1⟩ := List.any_eq_true.1 h
  exact (tm_died d hd x k r hr).2.1 (open_iff.1 h1).2
/-- Given again. -/
theorem tm_add {d : Nat → Int} (hd : ∀ i, 0 ≤ d i ∧ d i ≤ 4) {x : ByteArray} (hx : x ≠ ⟨#[]⟩) (k : Nat) (hk : k ≤ 100) : addC (tmT d x k) x ((k : Int) + 1) (tmE d k) = 0 ∧ addT (tmT d x k) x ((k : Int) + 1) (tmE d k) = ⟨tmR d x k ++ [⟨x, (k : Int) + 1, tmE d k, 0⟩], tmE d k⟩ := by
  have h1 := tmE_pos d hd k
  have hm := tm_may hd hx (by omega) (by omega) (tm_last d hd x k)
  have hn := tm_none hd x k
  rcases add_cases (tmT d x k) x ((k : Int) + 1) (tmE d k) with ⟨_, _, h4⟩ | ⟨_, _, _, _, h4⟩ | ⟨h3, h4, _⟩
  · exact absurd ⟨hm, by omega⟩ h4
  · rw [show (tmT d x k).rs = tmR d x k from rfl, hn] at h4; cases h4
  · exact ⟨h3, h4⟩
theorem tm_any {d : Nat → Int} (x : ByteArray) (k : Nat) : (tmR d x k ++ [(⟨x, (k : Int) + 1, tmE d k, 0⟩ : Rw)]).any (openP x) = true :=
  List.any_eq_true.2 ⟨⟨x, (k : Int) + 1, tmE d k, 0⟩, by simp, open_iff.2 ⟨rfl, rfl⟩⟩
/-- Taken. -/
theorem tm_rem {d : Nat → Int} (hd : ∀ i, 0 ≤ d i ∧ d i ≤ 4) {x : ByteArray} (hx : x ≠ ⟨#[]⟩) (k : Nat) (hk : k ≤ 100) : remC ⟨tmR d x k ++ [⟨x, (k : Int) + 1, tmE d k, 0⟩], tmE d k⟩ x (tmE d k + 1 + d k) = 0 ∧ remT ⟨tmR d x k ++ [⟨x, (k : Int) + 1, tmE d k, 0⟩], tmE d k⟩ x (tmE d k + 1 + d k) = tmT d x (k + 1) := by
  have h1 := tmE_pos d hd k
  have h2 := hd k
  have hm := tm_may (last := tmE d k) (e := tmE d k + 1 + d k) hd hx (by omega) (by omega) (by omega)
  rcases rem_cases ⟨tmR d x k ++ [⟨x, (k : Int) + 1, tmE d k, 0⟩], tmE d k⟩ x (tmE d k + 1 + d k) with ⟨_, _, h4⟩ | ⟨_, _, _, h4⟩ | ⟨h3, h4, _⟩
  · rw [hm] at h4; cases h4
  · rw [tm_any] at h4; cases h4
  · refine ⟨h3, h4.trans ?_⟩
    have hs : seatP (openP x) (tmR d x k ++ [(⟨x, (k : Int) + 1, tmE d k, 0⟩ : Rw)]) = k := by
      refine seatP_of (by rw [List.length_append, tmR_len]; simp) (fun j hj hjk => ?_) fun h => ?_
      · rw [List.getElem_append_left (by rw [tmR_len]; exact hjk), Bool.eq_false_iff]
        intro h
        exact (tm_died d hd x k _ (List.getElem_mem _)).2.1 (open_iff.1 h).2
      · rw [List.getElem_append_right (by rw [tmR_len]; exact Nat.le_refl _)]
        simp only [tmR_len, Nat.sub_self, List.getElem_cons_zero]
        exact open_iff.2 ⟨rfl, rfl⟩
    have hl : k < (tmR d x k ++ [(⟨x, (k : Int) + 1, tmE d k, 0⟩ : Rw)]).length := by rw [List.length_append, tmR_len]; simp
    have hg : (tmR d x k ++ [(⟨x, (k : Int) + 1, tmE d k, 0⟩ : Rw)])[k] = ⟨x, (k : Int) + 1, tmE d k, 0⟩ := by
      rw [List.getElem_append_right (by rw [tmR_len]; exact Nat.le_refl _)]
      simp only [tmR_len, Nat.sub_self, List.getElem_cons_zero]
    have he : endR (tmR d x k ++ [(⟨x, (k : Int) + 1, tmE d k, 0⟩ : Rw)]) x (tmE d k + 1 + d k) = tmR d x (k + 1) := by
      unfold endR
      simp only [hs]
      rw [dif_pos hl, hg, tmR_next, List.set_append_right _ _ (by rw [tmR_len]; exact Nat.le_refl _)]
      simp only [tmR_len, Nat.sub_self, List.set_cons_zero]
    exact congrArg (fun z => (⟨z, tmE d k + 1 + d k⟩ : Tb)) he
/-- Taken once more: there is none. -/
theorem tm_again {d : Nat → Int} (hd : ∀ i, 0 ≤ d i ∧ d i ≤ 4) {x : ByteArray} (hx : x ≠ ⟨#[]⟩) (k : Nat) (hk : k ≤ 100) : remC (tmT d x (k + 1)) x (tmE d k + 1 + d k) = 5 ∧ remT (tmT d x (k + 1)) x (tmE d k + 1 + d k) = tmT d x (k + 1) := by
  have h1 := tmE_pos d hd k
  have h2 := hd k
  have hm := tm_may (last := (tmT d x (k + 1)).last) (e := tmE d k + 1 + d k) hd hx (by omega) (by omega) (Int.le_refl _)
  have hn := tm_none hd x (k + 1)
  rcases rem_cases (tmT d x (k + 1)) x (tmE d k + 1 + d k) with ⟨_, _, h4⟩ | ⟨h3, h4, _⟩ | ⟨_, _, _, h4⟩
  · rw [hm] at h4; cases h4
  · exact ⟨h3, h4⟩
  · rw [show (tmT d x (k + 1)).rs = tmR d x (k + 1) from rfl, hn] at h4; cases h4
theorem tm_inv {d : Nat → Int} (hd : ∀ i, 0 ≤ d i ∧ d i ≤ 4) {x : ByteArray} (hx : x ≠ ⟨#[]⟩) : ∀ k, k ≤ 100 → Inv (tmT d x k)
  | 0, _ => inv0
  | k + 1, h => by
    have h1 := inv_add (tm_inv hd hx k (by omega)) x ((k : Int) + 1) (tmE d k)
    rw [(tm_add hd hx k (by omega)).2] at h1
    have h2 := inv_rem h1 x (tmE d k + 1 + d k)
    rw [(tm_rem hd hx k (by omega)).2] at h2
    exact h2
theorem tm_find {d : Nat → Int} (hd : ∀ i, 0 ≤ d i ∧ d i ≤ 4) {x : ByteArray} (hx : x ≠ ⟨#[]⟩) (k i : Nat) (hk : k ≤ 100) (hi : i < k) : foundI (tmT d x k).rs x (tmE d i) = (i : Int) + 1 ∧ foundB (tmT d x k).rs x (tmE d i) = true := by
  have hl : i < (tmR d x k).length := by rw [tmR_len]; exact hi
  have h2 := hd i
  have h1 := find_of (tm_inv hd hx k hk) (name := x) (e := tmE d i) (r := (tmR d x k)[i]) (List.getElem_mem hl) (by rw [tmR_at]; exact find_iff.2 ⟨rfl, Int.le_refl _, .inr (by show tmE d i < tmE d i + 1 + d i; omega)⟩)
  rw [tmR_at] at h1
  exact h1
theorem tm_end {d : Nat → Int} (hd : ∀ i, 0 ≤ d i ∧ d i ≤ 4) {x : ByteArray} (k : Nat) : foundB (tmT d x k).rs x (tmE d k + 1) = false := by
  rw [Bool.eq_false_iff]
  intro h
  obtain ⟨r, hr, h1⟩ := found_iff.1 h
  obtain ⟨_, h2, h3⟩ := find_iff.1 h1
  obtain ⟨_, h4, h5⟩ := tm_died d hd x k r hr
  rcases h3 with h3 | h3
  · exact h4 h3
  · omega
end Go.Proofs.Ythjcmagionaepaa
