/- Sorted and compacted by the library is sorted by the reference. (No walk in it.) -/
import Derived.Test.YthjcmagionaepaaMSets
import Derived.Lib.SlicesCompact
import Derived.Sort.Walk0
import Derived.Sort.EncStr
namespace Go.Proofs.Ythjcmagionaepaa
open Go.RowKit Kit
set_option linter.unusedVariables false

theorem compact_mem (d : Array (List UInt8)) (y : List UInt8) : ∀ m, y ∈ Lib.compactUpTo d m ↔ ∃ j, j < m ∧ d[j]! = y
  | 0 => by simp [Lib.compactUpTo]
  | m + 1 => by
    rw [Lib.compactUpTo_succ, List.mem_append, compact_mem d y m]
    constructor
    · rintro (⟨j, hj, e⟩ | h)
      · exact ⟨j, by omega, e⟩
      · split at h
        · exact ⟨m, by omega, (List.mem_singleton.1 h).symm⟩
        · simp at h
    · rintro ⟨j, hj, e⟩
      by_cases hjm : j = m
      · subst hjm
        by_cases hk : Lib.keeps d j = true
        · right; rw [if_pos hk]; simp [e]
        · left
          have h0 : ¬ (j = 0 ∨ d[j]! ≠ d[j - 1]!) := by
            intro h; exact hk (by unfold Lib.keeps; exact decide_eq_true h)
          have h1 : j ≠ 0 := fun h => h0 (.inl h)
          have h2 : d[j]! = d[j - 1]! := Decidable.byContradiction fun h => h0 (.inr h)
          exact ⟨j - 1, by omega, by rw [← h2]; exact e⟩
      · left; exact ⟨j, by omega, e⟩
theorem compact_rising (d : Array (List UInt8)) (m : Nat) (h : ∀ i j, i ≤ j → j < m → d[i]! ≤ d[j]!) : (Lib.compactUpTo d m).Pairwise (fun x y => x < y) := by
  unfold Lib.compactUpTo
  rw [List.pairwise_map]
  have h1 : ((List.range m).filter (Lib.keeps d)).Pairwise (fun x y => x < y) := List.Pairwise.filter _ List.pairwise_lt_range
  refine List.Pairwise.imp_of_mem ?_ h1
  intro i j hi hj hij
  obtain ⟨hj1, hj2⟩ := List.mem_filter.1 hj
  have hjm := List.mem_range.1 hj1
  unfold Lib.keeps at hj2
  have hk := of_decide_eq_true hj2
  have h2 : d[j]! ≠ d[j - 1]! := hk.resolve_left (by omega)
  have h3 := h i (j - 1) (by omega) (by omega)
  have h4 := h (j - 1) j (by omega) hjm
  have h5 : ¬ d[j]! ≤ d[j - 1]! := fun h => h2 (List.le_antisymm h h4)
  have h6 : d[j - 1]! < d[j]! := List.not_le.1 h5
  exact List.not_le.1 fun h => h5 (List.le_trans h h3)
def ofL (l : List UInt8) : ByteArray := ⟨l.toArray⟩
def toL (s : ByteArray) : List UInt8 := s.data.toList
theorem toL_ofL (l : List UInt8) : toL (ofL l) = l := by simp [toL, ofL]
theorem ofL_toL (s : ByteArray) : ofL (toL s) = s := by cases s; simp [toL, ofL]
theorem toList_toL (s : ByteArray) : s.toList = toL s := by rw [ByteArray.toList_eq]; rfl
def uniq (l : List ByteArray) : List (List UInt8) := Lib.compact ((l.map toL).mergeSort fun x y => decide (x ≤ y))
theorem uniq_sorted (l : List ByteArray) : (uniq l).map ofL = sortedB l := by
  have hs : ((l.map toL).mergeSort fun x y => decide (x ≤ y)).Pairwise (fun x y => decide (x ≤ y) = true) := by
    refine List.pairwise_mergeSort ?_ ?_ _
    · intro a b c h1 h2
      rw [decide_eq_true_iff] at *
      exact List.le_trans h1 h2
    · intro a b
      rw [Bool.or_eq_true, decide_eq_true_iff, decide_eq_true_iff]
      exact List.le_total a b
  have hp := List.mergeSort_perm (l.map toL) (fun x y => decide (x ≤ y))
  unfold uniq Lib.compact
  generalize ((l.map toL).mergeSort fun x y => decide (x ≤ y)) = z at hs hp
  have hget : ∀ i, i < z.length → z.toArray[i]! = z.getD i [] := by
    intro i hi
    simp [hi, List.getD]
  apply rising_ext
  · unfold Rising
    rw [List.pairwise_map]
    refine (compact_rising z.toArray z.length ?_).imp ?_
    · intro i j hij hj
      rw [hget i (by omega), hget j hj]
      by_cases e : i = j
      · subst e; exact List.le_refl _
      · have := (List.pairwise_iff_getElem.1 hs) i j (by omega) hj (by omega)
        rw [decide_eq_true_iff] at this
        simpa [List.getD, show i < z.length by omega, hj] using this
    · intro a b hab
      unfold less
      rw [bytesLess_eq, toList_toL, toList_toL, toL_ofL, toL_ofL]
      exact decide_eq_true hab
  · exact sorted_rising l
  · intro y
    rw [sorted_mem]
    constructor
    · intro h
      obtain ⟨x, hx, rfl⟩ := List.mem_map.1 h
      obtain ⟨j, hj, e⟩ := (compact_mem _ _ _).1 hx
      rw [hget j hj] at e
      have : x ∈ z := by rw [← e, List.getD, List.getElem?_eq_getElem hj]; simp
      obtain ⟨s, hs1, hs2⟩ := List.mem_map.1 (hp.mem_iff.1 this)
      rw [← hs2, ofL_toL]; exact hs1
    · intro h
      have hz : toL y ∈ z := hp.mem_iff.2 (List.mem_map.2 ⟨y, h, rfl⟩)
      obtain ⟨j, hj⟩ := List.mem_iff_getElem?.1 hz
      have hlt := (List.getElem?_eq_some_iff.1 hj).1
      refine List.mem_map.2 ⟨toL y, (compact_mem _ _ _).2 ⟨j, hlt, ?_⟩, ofL_toL y⟩
      rw [hget j hlt, List.getD, hj]; rfl
theorem uniq_strs (l : List ByteArray) : (uniq l).map encStr = strs (sortedB l) := by
  rw [← uniq_sorted]
  unfold strs
  rw [List.map_map]; rfl
theorem uniq_len (l : List ByteArray) : (uniq l).length = (sortedB l).length := by rw [← uniq_sorted, List.length_map]
end Go.Proofs.Ythjcmagionaepaa
