/- names.Sorted: what one call answers. -/
import Derived.Test.YthjcmagionaepaaShelfT
import Derived.Test.YthjcmagionaepaaMSort2
import Derived.Shelf.Sort.Plain
import Derived.Shelf.Slices.In.SortNone
import Derived.Sort.OwnSorted
import Derived.Lib.OwnBridge
import Derived.Lib.RowBridge
namespace Go.Proofs.Ythjcmagionaepaa
open Go.RowKit Kit
set_option linter.unusedVariables false

theorem rowV_case {w : World} {base : Nat} {e : TypeId} {v : Value} {xs : List Value} (h : RowV w base e v xs) : (v = .slice none 0 0 ∧ xs = []) ∨ v ≠ .slice none 0 0 := by
  unfold RowV at h
  rcases h.2 with ⟨h2, h3⟩ | ⟨g, cap, cur, hv, _⟩
  · exact .inl ⟨h2, List.eq_nil_of_length_eq_zero h3⟩
  · exact .inr (by rw [hv]; intro e; cases e)
theorem clone_any (v : Value) (l : List ByteArray) (w : World) (hv : Sees w v (strs l)) (hl : l.length ≤ 100000) :
    Calls Try.prog 28 #[v] w fun e w' => ∃ r, e = .returned r ∧ RowV w' w.heap.size 9 r (strs l) ∧ Below w.heap.size w w' := by
  obtain ⟨ao, cap, rfl, h1, h2, h3, h4⟩ := hv
  rw [strs_len] at *
  cases ao with
  | none =>
    have h5 : cap = 0 := h3 rfl
    have el : l = [] := List.eq_nil_of_length_eq_zero (by omega)
    subst el
    refine (Any.slices_Clone_string_nil Try.lays2n16 _ cap w).mono ?_
    rintro e w' ⟨rfl, rfl⟩
    exact ⟨_, rfl, rowV_nil _ _ _, Below.refl _ _⟩
  | some ad =>
    cases l with
    | nil =>
      refine (Any.slices_Clone_string_zero Try.lays2n16 ad cap w).mono ?_
      rintro e w' ⟨r, rfl, ho, _, hb⟩
      exact ⟨r, rfl, ho, hb⟩
    | cons a t =>
      obtain ⟨b, off, e, hb, hc⟩ := h4 (by simp)
      cases e
      refine (Any.slices_Clone_string Try.lays2n16 b off (a :: t).length cap (a :: t) w (Nat.le_refl _) (by omega) (fun j hj => hc j _ (strs_at _ j hj))).mono ?_
      rintro e w' ⟨r, rfl, ho, _, hb⟩
      refine ⟨r, rfl, ?_, hb⟩
      rw [List.take_length] at ho
      unfold RowV
      rw [strs_len]
      exact ho
theorem sort_any (r : Value) (ls : List (List UInt8)) (w : World) (base : Nat) (hr : RowV w base 9 r (ls.map encStr)) (hl : ls.length ≤ 100000) (hb : base ≤ w.heap.size) :
    Calls Try.prog 29 #[r] w fun e w' => e = .returned (.tuple #[]) ∧ RowV w' base 9 r ((ls.mergeSort fun x y => decide (x ≤ y)).map encStr) ∧ Below base w w' := by
  rcases rowV_case hr with ⟨rfl, hn⟩ | hne
  · have hn2 : ls = [] := List.map_eq_nil_iff.1 hn
    subst hn2
    refine (Any.slices_Sort_string_none Try.lays190 none 0 w).mono ?_
    rintro e w' ⟨rfl, rfl⟩
    exact ⟨rfl, by simpa using hr, Below.refl _ _⟩
  · unfold RowV at hr
    rw [List.length_map] at hr
    obtain ⟨g, cap, rfl, hbg, hgl, hnc, hcm, _, hH⟩ := Lib.holds_of_ownsRow hr hne
    refine (Any.slices_Sort_string Try.lays190 g 0 cap ls w hH hgl (by omega)).mono ?_
    rintro e w' ⟨rfl, n, os, rfl⟩
    refine ⟨rfl, ?_, (Below.refl _ _).grown (grownBy_sorted _) hb (fun j hj => by cases hj; exact hbg)⟩
    rcases hr.2 with ⟨h0, _⟩ | ⟨g', cap', cur, hv, hb', hh, k1, k2, k3, _⟩
    · cases h0
    cases hv
    have hs := ownsRow_sorted (n := n) (os := os) (ts := ls.mergeSort fun x y => decide (x ≤ y)) (List.length_mergeSort ls) hb' hh k1 k2 k3
    unfold RowV
    rw [List.length_map, List.length_mergeSort]
    exact hs
theorem compact_any (r : Value) (ls : List (List UInt8)) (w : World) (base : Nat) (hr : RowV w base 9 r (ls.map encStr)) (hl : ls.length ≤ 100000) :
    Calls Try.prog 30 #[r] w fun e w' => ∃ r', e = .returned r' ∧ RowV w' base 9 r' ((Lib.compact ls).map encStr) ∧ Below base w w' := by
  rcases rowV_case hr with ⟨rfl, hn⟩ | hne
  · have hn2 : ls = [] := List.map_eq_nil_iff.1 hn
    subst hn2
    refine (Any.slices_Compact_string_empty Try.lays194 none 0 w).mono ?_
    rintro e w' ⟨rfl, rfl⟩
    exact ⟨_, rfl, rowV_nil _ _ _, Below.refl _ _⟩
  · unfold RowV at hr
    rw [List.length_map] at hr
    obtain ⟨g, cap, rfl, hbg, hgl, hnc, hcm, _, hH⟩ := Lib.holds_of_ownsRow hr hne
    refine (Any.slices_Compact_string Try.lays194 g 0 cap ls w hH (by omega) hnc).mono ?_
    rintro e w' ⟨rfl, q, rfl⟩
    have hle := Lib.compact_length_le ls
    have hc := Lib.ownsRow_putRow (q := q) (k := (Lib.compact ls).length) (ys := Lib.compact ls ++ List.replicate (ls.length - (Lib.compact ls).length) []) hr (by simp; omega) hle
    rw [List.take_left] at hc
    refine ⟨_, rfl, ?_, Lib.below_putRow (Below.refl _ _) hbg⟩
    unfold RowV
    rw [List.length_map]
    exact hc
set_option maxHeartbeats 1000000 in
theorem nsorted_any (v : Value) (l : List ByteArray) (w : World) (hv : Sees w v (strs l)) (hl : l.length ≤ 100000) :
    Calls Try.prog 21 #[v] w fun e w' => ∃ r, e = .returned r ∧ Sees w' r (strs (sortedB l)) ∧ Below w.heap.size w w' := by
  have HX : Hid (Calls Try.prog 28 _ _ _) := clone_any v l w hv hl
  have em : strs l = (l.map toL).map encStr := (Lib.map_encStr l).symm
  have HL : Hid (l.length ≤ 100000) := hl
  rw [em] at HX
  clear hv hl em
  go_enter Try.func21, Try.ntmps21
  go_wp2_with fail
  go_at_call 28
  refine HX.out.mono ?_
  rintro e1 w1 ⟨r, rfl, hr1, hb1⟩
  have HS : Hid (Calls Try.prog 29 _ _ _) := sort_any r (l.map toL) w1 w.heap.size hr1 (by rw [List.length_map]; exact HL.out) hb1.size
  have H1 : Hid (Below w.heap.size w w1) := hb1
  clear HX hr1 hb1
  go_wp2_with fail
  go_at_call 29
  refine HS.out.mono ?_
  rintro e2 w2 ⟨rfl, hr2, hb2⟩
  have HC : Hid (Calls Try.prog 30 _ _ _) := compact_any r _ w2 w.heap.size hr2 (by rw [List.length_mergeSort, List.length_map]; exact HL.out)
  have H2 : Hid (Below w.heap.size w w2) := H1.out.trans hb2
  clear HS hr2 hb2 H1
  go_wp2_with fail
  go_at_call 30
  refine HC.out.mono ?_
  rintro e3 w3 ⟨r3, rfl, hr3, hb3⟩
  have H3 : Hid (Sees w3 r3 (strs (sortedB l)) ∧ Below w.heap.size w w3) := by
    refine ⟨?_, H2.out.trans hb3⟩
    rw [← uniq_strs]
    exact hr3.sees
  clear HC hr3 hb3 H2
  go_wp2
  go_ret
  exact ⟨r3, rfl, H3.out⟩
end Go.Proofs.Ythjcmagionaepaa
