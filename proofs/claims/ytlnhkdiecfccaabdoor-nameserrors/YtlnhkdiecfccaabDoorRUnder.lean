/- dolmenref1.Under, dolmenref1.Parent: what one call answers. -/
import Derived.Test.YtlnhkdiecfccaabDoorRSplit
import Derived.Deep.RegionHeld3
import Derived.Deep.QuietTactic
import Derived.BigQuiet
namespace Go.Proofs.YtlnhkdiecfccaabDoor
open Go.RowKit Kit
set_option linter.unusedVariables false

theorem split_code (s : ByteArray) : (splitB s).2 = 0 ∨ ((splitB s).2 ≠ 0 ∧ (splitB s).1 = []) := by
  unfold splitB
  split
  · exact .inl rfl
  split
  · exact .inr ⟨by decide, rfl⟩
  split
  · exact .inr ⟨by decide, rfl⟩
  split
  · exact .inr ⟨by decide, rfl⟩
  split
  · exact .inr ⟨by decide, rfl⟩
  · exact .inl rfl
theorem split_small (s : ByteArray) : (splitB s).1.length ≤ 6 ∧ ∀ q ∈ (splitB s).1, q.size ≤ 12 := by
  unfold splitB
  split
  · exact ⟨by simp, by simp⟩
  split
  · exact ⟨by simp, by simp⟩
  split
  · exact ⟨by simp, by simp⟩
  split
  · exact ⟨by simp, by simp⟩
  rename_i h
  split
  · exact ⟨by simp, by simp⟩
  · refine ⟨by simp; omega, fun q hq => ?_⟩
    have h2 : (partsB s).any longB = false := by simpa using h
    rw [List.any_eq_false] at h2
    have := h2 q hq
    unfold longB at this
    simpa using this
theorem tot_small : ∀ l : List ByteArray, (∀ q ∈ l, q.size ≤ 12) → tot l ≤ 13 * l.length
  | [], _ => by simp [tot]
  | x :: r, h => by
    have h1 := tot_small r (fun q hq => h q (by simp [hq]))
    have h2 := h x (by simp)
    unfold tot at *
    simp
    omega
/-- Is the one under the other? -/
def underB (p d : ByteArray) : Bool := decide ((splitB p).2 = 0 ∧ (splitB d).2 = 0 ∧ (splitB p).1.take (splitB d).1.length = (splitB d).1)
theorem take_eq {a b : List ByteArray} (hl : b.length ≤ a.length) (h : ∀ j, j < b.length → a.getD j ⟨#[]⟩ = b.getD j ⟨#[]⟩) : a.take b.length = b := by
  apply List.ext_getElem
  · simp; omega
  · intro i h1 h2
    have := h i h2
    have h3 : i < a.length := by omega
    simpa [List.getD, h2, h3] using this

/-- Directory and last name. -/
def parentB (s : ByteArray) : ByteArray × ByteArray × Int :=
  if (splitB s).2 ≠ 0 then (⟨#[]⟩, ⟨#[]⟩, (splitB s).2) else if (splitB s).1.length = 0 then (⟨#[]⟩, ⟨#[]⟩, 2) else (joinB ((splitB s).1.take ((splitB s).1.length - 1)), (splitB s).1.getD ((splitB s).1.length - 1) ⟨#[]⟩, 0)
theorem drewNB {B : Nat} {a w : World} (h : Below B a w) (n : Nat) : Below B a (w.drewN n) := ⟨h.os, h.tape, h.output, h.size, h.block⟩
theorem Sees.cut {w : World} {ao : Option Addr} {n cap : Nat} {l : List ByteArray} (h : Sees w (.slice ao n cap) (strs l)) (m : Nat) (hm : m ≤ n) : Sees w (.slice ao m cap) (strs (l.take m)) := by
  obtain ⟨ao', cap', e, h1, h2, h3, h4⟩ := h
  rw [strs_len] at e h1 h4
  cases e
  refine ⟨ao, cap, by rw [strs_len]; simp; omega, by rw [strs_len]; simp; omega, h2, h3, fun h0 => ?_⟩
  rw [strs_len] at h0
  have h5 : 0 < l.length := by simp at h0; omega
  obtain ⟨b, off, e, hb, hc⟩ := h4 h5
  refine ⟨b, off, e, hb, fun i x hx => hc i x ?_⟩
  unfold strs at *
  rw [List.map_take, List.getElem?_take] at hx
  split at hx
  · exact hx
  · cases hx

end Go.Proofs.YtlnhkdiecfccaabDoor
