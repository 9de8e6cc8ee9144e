/- Paths with one thing wrong, and with more than one. (No walk in it.) -/
import Derived.Test.YtlnhkdiecfccaabDoorMBack
namespace Go.Proofs.YtlnhkdiecfccaabDoor
open Go.RowKit Kit
set_option linter.unusedVariables false

def xsB (k : Nat) : ByteArray := ⟨(List.replicate k (120 : UInt8)).toArray⟩
theorem xsB_step (k : Nat) : xsB k ++ ⟨#[120]⟩ = xsB (k + 1) := by
  apply ByteArray.ext
  rw [ByteArray.data_append]
  unfold xsB
  rw [List.replicate_succ']
  apply Array.toList_inj.1
  rw [Array.toList_append]
theorem xsB_bytes (k : Nat) : bytesOf (xsB k) = List.replicate k 120 := by simp [bytesOf, xsB]
theorem xsB_size (k : Nat) : (xsB k).size = k := by simp [xsB, ByteArray.size]
def namesE (n long : Nat) : List ByteArray := xsB long :: List.replicate (n - 1) ⟨#[97]⟩
def pathE (n long : Nat) : ByteArray := joinB (namesE n long)
theorem joinB_bytes {l : List ByteArray} (h0 : l.length ≠ 0) : bytesOf (joinB l) = joinL (l.map bytesOf) := by
  unfold joinB
  rw [if_neg h0, joinTo_bytes _ _ (Nat.le_refl _), List.take_length]
theorem pathE_one (long : Nat) : ⟨#[47]⟩ ++ xsB long = pathE 1 long := by
  apply bytesOf_inj
  unfold pathE
  rw [joinB_bytes (by simp [namesE]), bytesOf_append]
  simp [namesE, joinL]
  rfl
theorem pathE_step (n long : Nat) (h : 1 ≤ n) : pathE n long ++ ⟨#[47, 97]⟩ = pathE (n + 1) long := by
  apply bytesOf_inj
  unfold pathE
  rw [bytesOf_append, joinB_bytes (by simp [namesE]), joinB_bytes (by simp [namesE])]
  have e : namesE (n + 1) long = namesE n long ++ [⟨#[97]⟩] := by
    unfold namesE
    rw [show n + 1 - 1 = (n - 1) + 1 by omega, List.replicate_succ']
    simp
  have e2 : bytesOf ⟨#[47, 97]⟩ = [47, 97] := rfl
  have e3 : bytesOf ⟨#[97]⟩ = [97] := rfl
  rw [e, List.map_append, List.map_cons, List.map_nil, e2, e3]
  unfold joinL
  rw [List.flatMap_append, List.flatMap_cons, List.flatMap_nil, List.append_nil]
theorem namesE_len (n long : Nat) (h : 1 ≤ n) : (namesE n long).length = n := by simp [namesE]; omega
theorem pathE_size (n long : Nat) (h : 1 ≤ n) : (pathE n long).size = long + 2 * n - 1 := by
  unfold pathE
  rw [joinB_size (by simp [namesE])]
  have e : (⟨#[97]⟩ : ByteArray).size = 1 := rfl
  simp [tot, namesE, xsB_size, e]
  omega
theorem xs_ok {k : Nat} (h : 1 ≤ k) : okB (xsB k) = true := by
  refine okB_yes (fun e => ?_) (fun e => ?_) (fun e => ?_) (fun j hj => ?_)
  · have := congrArg ByteArray.size e
    rw [xsB_size] at this
    have e2 : (⟨#[]⟩ : ByteArray).size = 0 := rfl
    omega
  · have := congrArg (fun s => (bytesOf s).getD 0 0) e
    simp only [xsB_bytes] at this
    cases k with
    | zero => omega
    | succ k => simp [bytesOf, List.replicate_succ] at this
  · have := congrArg (fun s => (bytesOf s).getD 0 0) e
    simp only [xsB_bytes] at this
    cases k with
    | zero => omega
    | succ k => simp [bytesOf, List.replicate_succ] at this
  · rw [xsB_size] at hj
    rw [xsB_bytes]
    have : (List.replicate k (120 : Int)).getD j 0 = 120 := by simp [List.getD, hj]
    rw [this]; rfl
theorem names_all (n long : Nat) (hl : 1 ≤ long) : (namesE n long).all okB = true := by
  rw [List.all_eq_true]
  intro q hq
  unfold namesE at hq
  rcases List.mem_cons.1 hq with rfl | hq
  · exact xs_ok hl
  · rw [List.eq_of_mem_replicate hq]; decide
theorem names_long (n long : Nat) : (namesE n long).any longB = decide (12 < long) := by
  unfold namesE
  rw [List.any_cons]
  have e : (List.replicate (n - 1) (⟨#[97]⟩ : ByteArray)).any longB = false := by
    rw [List.any_eq_false]
    intro q hq
    rw [List.eq_of_mem_replicate hq]; decide
  rw [e, Bool.or_false]
  unfold longB
  rw [xsB_size]
/-- What such a path is told to be. -/
theorem split_pathE (n long : Nat) (h1 : 1 ≤ n) (h2 : n ≤ 12) (h3 : 1 ≤ long) (h4 : long ≤ 15) :
    splitB (pathE n long) = if 12 < long then ([], 3) else if 6 < n then ([], 4) else (namesE n long, 0) := by
  have hs := pathE_size n long h1
  have hn := namesE_len n long h1
  unfold pathE at *
  rw [split_join_any _ (by omega) (fun q hq => ok_free (List.all_eq_true.1 (names_all n long h3) q hq)) (fun e => by
    have := congrArg ByteArray.size e
    rw [hs] at this
    have e2 : (⟨#[47]⟩ : ByteArray).size = 1 := rfl
    omega) (by omega), names_all n long h3, names_long, hn]
  simp
theorem cut_mem {c x : Int} (hx : x ≠ c) : ∀ l : List Int, x ∈ l → ∃ p ∈ cutL c l, x ∈ p
  | [], h => by simp at h
  | y :: r, h => by
    rw [cutL]
    split
    · rename_i e
      rcases List.mem_cons.1 h with h | h
      · exact absurd (h.trans e) hx
      · obtain ⟨p, hp, hm⟩ := cut_mem hx r h
        exact ⟨p, by simp [hp], hm⟩
    · split
      · rename_i e
        exact absurd e (cutL_ne _ _)
      · rename_i q qs e
        rcases List.mem_cons.1 h with h | h
        · exact ⟨y :: q, by simp, by simp [h]⟩
        · obtain ⟨p, hp, hm⟩ := cut_mem hx r h
          rw [e] at hp
          rcases List.mem_cons.1 hp with rfl | hp
          · exact ⟨y :: p, by simp, by simp [hm]⟩
          · exact ⟨p, by simp [hp], hm⟩
/-- A sign that may not be. -/
theorem split_bad {s : ByteArray} {x : Int} (hm : x ∈ bytesOf s) (hx : x ≠ 47) (hl : letterB x = false) : splitB s = ([], 2) := by
  have h1 : ¬ s = ⟨#[47]⟩ := fun e => by
    rw [e] at hm
    have e2 : bytesOf ⟨#[47]⟩ = [47] := rfl
    rw [e2] at hm
    exact hx (by simpa using hm)
  unfold splitB
  rw [if_neg h1]
  split
  · rfl
  · rename_i h2
    have h47 : (bytesOf s).getD 0 0 = 47 := by
      by_cases h6 : (bytesOf s).getD 0 0 = 47
      · exact h6
      · exact absurd (.inr (.inr h6)) h2
    rw [if_pos]
    have hm2 : x ∈ (bytesOf s).drop 1 := by
      cases hb : bytesOf s with
      | nil => rw [hb] at hm; simp at hm
      | cons y r =>
        rw [hb] at hm h47
        rcases List.mem_cons.1 hm with h | h
        · exact absurd (h.trans h47) hx
        · exact h
    obtain ⟨p, hp, hpx⟩ := cut_mem hx _ hm2
    rw [List.all_eq_false]
    refine ⟨strOf p, ?_, ?_⟩
    · unfold partsB
      rw [bytesOf_extract]
      exact List.mem_map.2 ⟨p, hp, rfl⟩
    · have hb := bytesOf_strOf (cutL_in _ _ (bytesIn_drop (bytesOf_in s) 1) p hp)
      unfold okB
      rw [hb]
      have : p.all letterB = false := by
        rw [List.all_eq_false]
        exact ⟨x, hpx, by rw [hl]; simp⟩
      rw [this, Bool.and_false]; simp
theorem split_signE (n long : Nat) : splitB (pathE n long ++ ⟨#[33]⟩) = ([], 2) := by
  refine split_bad (x := 33) ?_ (by decide) (by decide)
  rw [bytesOf_append]
  exact List.mem_append.2 (.inr (by simp [bytesOf]))
end Go.Proofs.YtlnhkdiecfccaabDoor
