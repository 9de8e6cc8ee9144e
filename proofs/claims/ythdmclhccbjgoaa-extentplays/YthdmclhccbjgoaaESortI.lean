/- Numbers sorted, each once: what slices.Sort and slices.Compact make of a row of the call's own. -/
import Derived.Test.YthdmclhccbjgoaaShelfI
import Derived.Test.YthdmclhccbjgoaaMSrt
import Derived.Test.YthdmclhccbjgoaaRSortedI
import Derived.Shelf.Sort.Plain
import Derived.Shelf.Slices.In.SortNone
import Derived.Shelf.Slices.CompactI
import Derived.Sort.OwnSortedInts
import Derived.Lib.OwnBridge
import Derived.Lib.RowBridge
import Derived.Lib.SlicesCompact
namespace Go.Proofs.Ythdmclhccbjgoaa
open Go.RowKit Kit
set_option linter.unusedVariables false

theorem compact_memI (d : Array Int) (y : Int) : ∀ m, y ∈ Lib.compactUpTo d m ↔ ∃ j, j < m ∧ d[j]! = y
  | 0 => by simp [Lib.compactUpTo]
  | m + 1 => by
    rw [Lib.compactUpTo_succ, List.mem_append, compact_memI d y m]
    constructor
    · rintro (⟨j, hj, e⟩ | h)
      · exact ⟨j, by omega, e⟩
      · split at h
        · exact ⟨m, by omega, (List.mem_singleton.1 h).symm⟩
        · simp at h
    · rintro ⟨j, hj, e⟩
      by_cases hjm : j = m
      · subst hjm
        by_cases hk : Lib.keeps d j = true
        · right; rw [if_pos hk]; simp [e]
        · left
          have h0 : ¬ (j = 0 ∨ d[j]! ≠ d[j - 1]!) := by
            intro h; exact hk (by unfold Lib.keeps; exact decide_eq_true h)
          have h1 : j ≠ 0 := fun h => h0 (.inl h)
          have h2 : d[j]! = d[j - 1]! := Decidable.byContradiction fun h => h0 (.inr h)
          exact ⟨j - 1, by omega, by rw [← h2]; exact e⟩
      · left; exact ⟨j, by omega, e⟩
theorem compact_risingI (d : Array Int) (m : Nat) (h : ∀ i j, i ≤ j → j < m → d[i]! ≤ d[j]!) : (Lib.compactUpTo d m).Pairwise (fun x y => x < y) := by
  unfold Lib.compactUpTo
  rw [List.pairwise_map]
  have h1 : ((List.range m).filter (Lib.keeps d)).Pairwise (fun x y => x < y) := List.Pairwise.filter _ List.pairwise_lt_range
  refine List.Pairwise.imp_of_mem ?_ h1
  intro i j hi hj hij
  obtain ⟨hj1, hj2⟩ := List.mem_filter.1 hj
  have hjm := List.mem_range.1 hj1
  unfold Lib.keeps at hj2
  have hk := of_decide_eq_true hj2
  have h2 : d[j]! ≠ d[j - 1]! := hk.resolve_left (by omega)
  have h3 := h i (j - 1) (by omega) (by omega)
  have h4 := h (j - 1) j (by omega) hjm
  omega
theorem uniq_srt (l : List Int) : Lib.compact (l.mergeSort fun x y => decide (x ≤ y)) = srtI l := by
  have hs : (l.mergeSort fun x y => decide (x ≤ y)).Pairwise (fun x y => decide (x ≤ y) = true) := by
    refine List.pairwise_mergeSort ?_ ?_ _
    · intro a b c h1 h2
      rw [decide_eq_true_iff] at *
      omega
    · intro a b
      simp
      omega
  obtain ⟨s, hse⟩ : ∃ s, s = l.mergeSort fun x y => decide (x ≤ y) := ⟨_, rfl⟩
  have hm : ∀ y, y ∈ s ↔ y ∈ l := fun y => by rw [hse]; exact List.mem_mergeSort
  rw [← hse] at hs ⊢
  have hget : ∀ i (h : i < s.length), s.toArray[i]! = s[i] := fun i h => by simp [h]
  refine ups_ext _ _ ?_ (srt_ok l).1 (fun y => ?_)
  · unfold Lib.compact
    refine compact_risingI _ _ fun i j hij hj => ?_
    have hj : j < s.length := by simpa using hj
    rw [hget i (by omega), hget j hj]
    by_cases e : i = j
    · subst e; exact Int.le_refl _
    · exact of_decide_eq_true (List.pairwise_iff_getElem.1 hs i j (by omega) hj (by omega))
  · rw [(srt_ok l).2 y, ← hm y]
    unfold Lib.compact
    rw [compact_memI]
    constructor
    · rintro ⟨j, hj, e⟩
      have hj : j < s.length := by simpa using hj
      rw [hget j hj] at e
      rw [← e]
      exact List.getElem_mem hj
    · intro h
      obtain ⟨j, hj, e⟩ := List.getElem_of_mem h
      exact ⟨j, by simpa using hj, by rw [hget j hj]; exact e⟩
theorem rowV_caseI {w : World} {base : Nat} {e : TypeId} {v : Value} {xs : List Value} (h : RowV w base e v xs) : (v = .slice none 0 0 ∧ xs = []) ∨ v ≠ .slice none 0 0 := by
  unfold RowV at h
  rcases h.2 with ⟨h2, h3⟩ | ⟨g, cap, cur, hv, _⟩
  · exact .inl ⟨h2, List.eq_nil_of_length_eq_zero h3⟩
  · exact .inr (by rw [hv]; intro e; cases e)
theorem sortI_any (r : Value) (zs : List Int) (w : World) (base : Nat) (hr : RowV w base 3 r (iV zs)) (hl : zs.length ≤ 100000) (hb : base ≤ w.heap.size) :
    Calls Try.prog 37 #[r] w fun e w' => e = .returned (.tuple #[]) ∧ RowV w' base 3 r (iV (zs.mergeSort fun x y => decide (x ≤ y))) ∧ Below base w w' := by
  unfold iV at *
  rcases rowV_caseI hr with ⟨rfl, hn⟩ | hne
  · have hn2 : zs = [] := List.map_eq_nil_iff.1 hn
    subst hn2
    refine (Any.slices_Sort_int_none Try.lays189 none 0 w).mono ?_
    rintro e w' ⟨rfl, rfl⟩
    exact ⟨rfl, by simpa using hr, Below.refl _ _⟩
  · unfold RowV at hr
    rw [List.length_map] at hr
    obtain ⟨g, cap, rfl, hbg, hgl, hnc, hcm, _, hH⟩ := Lib.holds_of_ownsRow hr hne
    refine (Any.slices_Sort_int Try.lays189 g 0 cap zs w hH hgl (by omega)).mono ?_
    rintro e w' ⟨rfl, n, os, rfl⟩
    refine ⟨rfl, ?_, (Below.refl _ _).grown (grownBy_sortedI _) hb (fun j hj => by cases hj; exact hbg)⟩
    rcases hr.2 with ⟨h0, _⟩ | ⟨g', cap', cur, hv, hb', hh, k1, k2, k3, _⟩
    · cases h0
    cases hv
    have hs := ownsRow_sortedI (n := n) (os := os) (ts := zs.mergeSort fun x y => decide (x ≤ y)) (List.length_mergeSort zs) hb' hh k1 k2 k3
    unfold RowV
    rw [List.length_map, List.length_mergeSort]
    exact hs
theorem compI_any (r : Value) (zs : List Int) (w : World) (base : Nat) (hr : RowV w base 3 r (iV zs)) (hl : zs.length ≤ 100000) :
    Calls Try.prog 38 #[r] w fun e w' => ∃ r', e = .returned r' ∧ RowV w' base 3 r' (iV (Lib.compact zs)) ∧ Below base w w' := by
  unfold iV at *
  rcases rowV_caseI hr with ⟨rfl, hn⟩ | hne
  · have hn2 : zs = [] := List.map_eq_nil_iff.1 hn
    subst hn2
    refine (Any.slices_Compact_int_empty Try.lays2n20 none 0 w).mono ?_
    rintro e w' ⟨rfl, rfl⟩
    exact ⟨_, rfl, rowV_nil _ _ _, Below.refl _ _⟩
  · unfold RowV at hr
    rw [List.length_map] at hr
    obtain ⟨g, cap, rfl, hbg, hgl, hnc, hcm, _, hH⟩ := Lib.holds_of_ownsRow hr hne
    refine (Any.slices_Compact_int Try.lays2n20 g 0 cap zs w hH (by omega) hnc).mono ?_
    rintro e w' ⟨rfl, q, rfl⟩
    have hle := Lib.compact_length_le zs
    have hc := Lib.ownsRow_putRow (q := q) (k := (Lib.compact zs).length) (ys := Lib.compact zs ++ List.replicate (zs.length - (Lib.compact zs).length) 0) hr (by simp; omega) hle
    rw [List.take_left] at hc
    refine ⟨_, rfl, ?_, Lib.below_putRow (Below.refl _ _) hbg⟩
    unfold RowV
    rw [List.length_map]
    exact hc
end Go.Proofs.Ythdmclhccbjgoaa
