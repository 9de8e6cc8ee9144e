/- A Mold that came in; an error whose nodes are known but for their addresses. -/
import Derived.Test.YtlandjnhhcnbeaaDoorInnerL
import Derived.Test.YtlandjnhhcnbeaaDoorMoldOpen
namespace Go.Proofs.YtlandjnhhcnbeaaDoor
open Go.ChangeShapes Go.WideShapes Go.ChangeAt Go.RowKit Kit
set_option linter.unusedVariables false

theorem agg_of_cells {v a b c d e : Value} (h : v.cells.toList = [a, b, c, d, e]) : v = .agg #[a, b, c, d, e] := by
  cases v with
  | agg cs =>
    have h2 : cs.toList = [a, b, c, d, e] := h
    rw [show cs = cs.toList.toArray from (Array.toArray_toList).symm, h2]
  | _ => simp [Value.cells] at h
theorem mold_arg {H : Type} {enc : TypeId × Value → H} {held : Bool} {w : World} {v : Value} {fuel : Nat} {x : DataW H × List MemPlace} (h : DataW.trod enc Tryd.prog w 0 (fun _ => true) held fuel 24 v.cells.toList = some x) :
    ∃ (n : Nat) (t : Tr n), MoldAt w n v t := by
  obtain ⟨l, a, len, cap, t, hcs, hm⟩ := mold_of fuel fuel v.cells.toList x (by omega) h
  have := agg_of_cells hcs
  subst this
  exact ⟨fuel, t, hm⟩
theorem shapes_one {ns : List Nd} {s : Sh} (h : shapes ns = [s]) : ∃ x, ns = [x] ∧ shape x = s := by
  cases ns with
  | nil => cases h
  | cons a r =>
    cases r with
    | nil => simp [shapes] at h; exact ⟨a, rfl, h⟩
    | cons b q => simp [shapes] at h
theorem Pre.shape_num {w : World} {f : Nat} {v : Value} {ns : List Nd} {z : Int} (h : Pre w f v ns) (hs : shapes ns = [(39, z, [])]) : v = .iface 39 (.int .i64 z) := by
  obtain ⟨x, rfl, hx⟩ := shapes_one hs
  cases f with
  | zero => cases h.2
  | succ f =>
    rcases h with h | ⟨m, h, hm⟩ | ⟨b, s', h, h2, hm⟩ | ⟨b, op, path, e, ms', h, h2, h3, h4, h9, h5, h6, hm⟩ | ⟨b, x1, x2, m1, m2, h, h3, h4, h5, h6, h7, h8, hm⟩
    · cases h.2
    · cases hm
      have : m = z := by simpa [shape, intOf] using hx
      subst this
      exact h
    · cases hm; cases hx
    · cases hm; cases hx
    · obtain ⟨h0, _⟩ := List.cons.inj hm
      subst h0
      cases hx
theorem Pre.shape_leaf {w : World} {f : Nat} {v : Value} {ns : List Nd} {s : ByteArray} (h : Pre w f v ns) (hs : shapes ns = [(47, 0, [(s, ⟨#[]⟩)])]) : ∃ b, v = .iface 47 (.pointer (some ⟨b, 0, none⟩)) ∧ w.cell? ⟨b, 0, none⟩ = some (.string s) := by
  obtain ⟨x, rfl, hx⟩ := shapes_one hs
  cases f with
  | zero => cases h.2
  | succ f =>
    rcases h with h | ⟨m, h, hm⟩ | ⟨b, s', h, h2, hm⟩ | ⟨b, op, path, e, ms', h, h2, h3, h4, h9, h5, h6, hm⟩ | ⟨b, x1, x2, m1, m2, h, h3, h4, h5, h6, h7, h8, hm⟩
    · cases h.2
    · cases hm; cases hx
    · cases hm
      have : s' = s := by
        simp [shape] at hx
        exact hx.2
      subst this
      exact ⟨b, h, h2⟩
    · cases hm; cases hx
    · obtain ⟨h0, _⟩ := List.cons.inj hm
      subst h0
      cases hx
end Go.Proofs.YtlandjnhhcnbeaaDoor
