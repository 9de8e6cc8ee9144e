/- Slices of numbers that came in: what they show. -/
import Derived.Test.YtbkciencikdacaaLStepsL
import Derived.Test.YtbkciencikdacaaRSortedI
import Derived.SliceStrings
namespace Go.Proofs.Ytbkciencikdacaa
open Go.ChangeShapes Go.WideShapes Go.ChangeAt Go.RowKit Kit
set_option linter.unusedVariables false

theorem sees_of_cells {w : World} {a : Addr} {len cap : Nat} {xs : List Value} (hl : xs.length = len) (hc : len ≤ cap) (hm : cap ≤ maxLen) (h : ∀ i x, xs[i]? = some x → w.cell? (a.add i) = some x) : Sees w (.slice (some a) len cap) xs := by
  subst hl
  refine ⟨some a, cap, rfl, hc, hm, by simp, fun h0 => ?_⟩
  obtain ⟨b, off, spot⟩ := a
  have c0 := h 0 xs[0] (by simp)
  have hs : spot = none := by simpa [Addr.add] using World.cell?_spot c0
  subst hs
  have hb : b < w.heap.size := by
    rcases Nat.lt_or_ge b w.heap.size with h' | h'
    · exact h'
    · simp [Addr.add, World.cell?, Array.getElem?_eq_none h'] at c0
  refine ⟨b, off, rfl, hb, fun i x hx => ?_⟩
  have := h i x hx
  rwa [Addr.add_lit] at this
theorem sees_nil (w : World) : Sees w (.slice none 0 0) [] := ⟨none, 0, rfl, Nat.le_refl _, by simp, fun _ => rfl, fun h => absurd h (by simp)⟩
theorem ints_of {H : Type} {enc : TypeId × Value → H} {P : Program} {w : World} {held : Bool} {t e : TypeId} {fuel : Nat} {v : Value} {x : DataW H × List MemPlace} (ht : P.underlying t = some (.slice e)) (he : P.underlying e = some (.int .i64)) (hc : P.cellsOf e = 1)
    (h : DataW.trod enc P w 0 (fun _ => true) held fuel t [v] = some x) : ∃ zs : List Int, Sees w v (iV zs) := by
  rcases open_ints ht he hc h with ⟨h0, _⟩ | ⟨a, len, cap, zs, h0, _, hl, hm, hz, _, hcell, hwz⟩
  · simp only [List.cons.injEq, and_true] at h0
    subst h0
    exact ⟨[], sees_nil w⟩
  · simp only [List.cons.injEq, and_true] at h0
    subst h0
    simp only [if_true] at hz
    refine ⟨zs.take len, sees_of_cells (by simp [iV]; omega) hl hm fun i x hx => ?_⟩
    have hi : i < len := by have := (List.getElem?_eq_some_iff.1 hx).1; simp [iV] at this; omega
    rw [hcell i (by omega), ← hx]
    have : i < zs.length := by omega
    simp [iV, List.getD, hi, this]
/-- A span that came in by value. -/
theorem span_of {H : Type} {enc : TypeId × Value → H} {held : Bool} {w : World} {fuel : Nat} {cs : List Value} {x : DataW H × List MemPlace} (h : DataW.trod enc Try.prog w 0 (fun _ => true) held fuel 25 cs = some x) :
    ∃ b d : Int, cs = [.int .i64 b, .int .i64 d] := by
  obtain ⟨n, x0, x1, hn, hcl, f0, f1⟩ := struct2 Try.underlying25 h
  rw [cellsSp] at hcl
  obtain ⟨v0, v1, rfl⟩ := two9 hcl
  simp only [cellsI, List.drop_zero, List.drop_succ_cons, List.take_succ_cons, List.take_zero] at f0 f1
  obtain ⟨a0, e0, _, _⟩ := DataW.trod_int Try.underlying3 f0
  obtain ⟨a1, e1, _, _⟩ := DataW.trod_int Try.underlying3 f1
  simp only [List.cons.injEq, and_true] at e0 e1
  subst e0 e1
  exact ⟨a0, a1, rfl⟩
end Go.Proofs.Ytbkciencikdacaa
