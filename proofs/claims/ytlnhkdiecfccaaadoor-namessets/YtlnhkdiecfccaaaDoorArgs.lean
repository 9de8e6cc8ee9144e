/- Slices that came in: what they show. -/
import Derived.Test.YtlnhkdiecfccaaaDoorRJoin
import Derived.Deep.Grids
import Derived.SliceStrings
namespace Go.Proofs.YtlnhkdiecfccaaaDoor
open Go.ChangeShapes Go.WideShapes Go.ChangeAt Go.RowKit Kit
set_option linter.unusedVariables false

theorem sees_of_cells {w : World} {a : Addr} {len cap : Nat} {xs : List Value} (hl : xs.length = len) (hc : len ≤ cap) (hm : cap ≤ maxLen) (h : ∀ i x, xs[i]? = some x → w.cell? (a.add i) = some x) : Sees w (.slice (some a) len cap) xs := by
  subst hl
  refine ⟨some a, cap, rfl, hc, hm, by simp, fun h0 => ?_⟩
  obtain ⟨b, off, spot⟩ := a
  have c0 := h 0 xs[0] (by simp)
  have hs : spot = none := by simpa [Addr.add] using World.cell?_spot c0
  subst hs
  have hb : b < w.heap.size := by
    rcases Nat.lt_or_ge b w.heap.size with h' | h'
    · exact h'
    · simp [Addr.add, World.cell?, Array.getElem?_eq_none h'] at c0
  refine ⟨b, off, rfl, hb, fun i x hx => ?_⟩
  have := h i x hx
  rwa [Addr.add_lit] at this
theorem sees_nil (w : World) : Sees w (.slice none 0 0) [] := ⟨none, 0, rfl, Nat.le_refl _, by simp, fun _ => rfl, fun h => absurd h (by simp)⟩
section
variable {H : Type} {enc : TypeId × Value → H} {P : Program} {w : World} {held : Bool}
theorem bools_of {t e : TypeId} {fuel : Nat} {v : Value} {x : DataW H × List MemPlace} (ht : P.underlying t = some (.slice e)) (he : P.underlying e = some .bool) (hc : P.cellsOf e = 1)
    (h : DataW.trod enc P w 0 (fun _ => true) held fuel t [v] = some x) : ∃ bs : List Bool, Sees w v (bs.map Value.bool) := by
  rcases Go.Deep.open_bools ht he hc h with ⟨h0, _⟩ | ⟨a, len, cap, B, h0, _, hl, hm, _, hcell⟩
  · simp only [List.cons.injEq, and_true] at h0
    subst h0
    exact ⟨[], sees_nil w⟩
  · simp only [List.cons.injEq, and_true] at h0
    subst h0
    refine ⟨(List.range len).map B, sees_of_cells (by simp) hl hm fun i x hx => ?_⟩
    have hi : i < len := by have := (List.getElem?_eq_some_iff.1 hx).1; simpa using this
    rw [hcell i (by omega), ← hx]
    simp [hi]
theorem strings_of {t e : TypeId} {fuel : Nat} {v : Value} {x : DataW H × List MemPlace} (ht : P.underlying t = some (.slice e)) (he : P.underlying e = some .string) (hc : P.cellsOf e = 1)
    (h : DataW.trod enc P w 0 (fun _ => true) held fuel t [v] = some x) : ∃ ss : List ByteArray, Sees w v (strs ss) ∧ ∀ s ∈ ss, s.size ≤ maxLen := by
  rcases open_strings ht he hc h with ⟨h0, _⟩ | ⟨a, len, cap, ss, h0, _, hl, hm, hlen, _, hcell, hsz⟩
  · simp only [List.cons.injEq, and_true] at h0
    subst h0
    exact ⟨[], sees_nil w, by simp⟩
  · simp only [List.cons.injEq, and_true] at h0
    subst h0
    simp only [if_true] at hlen
    refine ⟨ss.take len, sees_of_cells (by rw [strs_len]; simp; omega) hl hm fun i x hx => ?_, fun s hs => hsz s (List.mem_of_mem_take hs)⟩
    have hi : i < (ss.take len).length := by have := (List.getElem?_eq_some_iff.1 hx).1; rw [strs_len] at this; exact this
    rw [strs_at _ i hi] at hx
    have hi2 : i < len := by simp at hi; omega
    rw [hcell i (by omega), ← hx]
    simp [List.getD, hi2]
    rfl
theorem ints_of {t e : TypeId} {k : IntKind} {fuel : Nat} {v : Value} {x : DataW H × List MemPlace} (ht : P.underlying t = some (.slice e)) (he : P.underlying e = some (.int k)) (hc : P.cellsOf e = 1)
    (h : DataW.trod enc P w 0 (fun _ => true) held fuel t [v] = some x) : ∃ zs : List Int, Sees w v (zs.map (Value.int k)) ∧ ∀ z ∈ zs, (Lit.int k z).wf = true := by
  rcases open_ints ht he hc h with ⟨h0, _⟩ | ⟨a, len, cap, zs, h0, _, hl, hm, hz, _, hcell, hwz⟩
  · simp only [List.cons.injEq, and_true] at h0
    subst h0
    exact ⟨[], sees_nil w, by simp⟩
  · simp only [List.cons.injEq, and_true] at h0
    subst h0
    simp only [if_true] at hz
    refine ⟨zs.take len, sees_of_cells (by simp; omega) hl hm fun i x hx => ?_, fun z hzz => hwz z (List.mem_of_mem_take hzz)⟩
    have hi : i < len := by have := (List.getElem?_eq_some_iff.1 hx).1; simp at this; omega
    rw [hcell i (by omega), ← hx]
    have : i < zs.length := by omega
    simp [List.getD, hi, this]
end
end Go.Proofs.YtlnhkdiecfccaaaDoor
