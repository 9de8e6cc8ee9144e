/- The first one of a type within; what errors.as leaves. -/
import Derived.Test.YtlandjnhhcnbeaaDoorIs
namespace Go.Proofs.YtlandjnhhcnbeaaDoor
open Go.RowKit Go.Extern.Stop Go.Stop Go.Extern
set_option linter.unusedVariables false

def firstOf (T : Nat) (ns : List Nd) : Option Value := (ns.find? fun x => x.1 == T).map fun x => x.2.1
theorem firstOf_skip (T t : Nat) (x : Value × List (ByteArray × ByteArray)) (ns : List Nd) (h : (t == T) = false) : firstOf T ((t, x) :: ns) = firstOf T ns := by
  unfold firstOf; rw [List.find?_cons]; simp only [h]
theorem firstOf_hit (T : Nat) (x : Value) (l : List (ByteArray × ByteArray)) (ns : List Nd) : firstOf T ((T, x, l) :: ns) = some x := by
  unfold firstOf; rw [List.find?_cons]; simp
theorem firstOf_nil (T : Nat) : firstOf T [] = none := rfl
theorem firstOf_left (T : Nat) (a b : List Nd) (x : Value) (h : firstOf T a = some x) : firstOf T (a ++ b) = some x := by
  unfold firstOf at *
  rw [List.find?_append]
  obtain ⟨y, hy, rfl⟩ := Option.map_eq_some_iff.1 h
  rw [hy]; rfl
theorem firstOf_right (T : Nat) (a b : List Nd) (h : firstOf T a = none) : firstOf T (a ++ b) = firstOf T b := by
  unfold firstOf at *
  rw [List.find?_append]
  rw [Option.map_eq_none_iff.1 h]; rfl
theorem chainOf_skip (t : Nat) (x : Value × List (ByteArray × ByteArray)) (ns : List Nd) (h : (t == 54) = false) : chainOf ((t, x) :: ns) = chainOf ns := by
  unfold chainOf; rw [List.find?_cons]; simp only [h]
theorem chainOf_hit (x : Value) (l : List (ByteArray × ByteArray)) (ns : List Nd) : chainOf ((54, x, l) :: ns) = l := by
  unfold chainOf; rw [List.find?_cons]; simp
theorem chainOf_none (ns : List Nd) (h : firstOf 54 ns = none) : chainOf ns = [] := by
  unfold chainOf firstOf at *
  rw [Option.map_eq_none_iff.1 h]; rfl
theorem chainOf_left (a b : List Nd) (x : Value) (h : firstOf 54 a = some x) : chainOf (a ++ b) = chainOf a := by
  unfold chainOf firstOf at *
  rw [List.find?_append]
  obtain ⟨y, hy, rfl⟩ := Option.map_eq_some_iff.1 h
  rw [hy]; rfl
theorem chainOf_right (a b : List Nd) (h : firstOf 54 a = none) : chainOf (a ++ b) = chainOf b := by
  unfold chainOf firstOf at *
  rw [List.find?_append]
  rw [Option.map_eq_none_iff.1 h]; rfl
/-- The first Fault within: its cells, and what is within its own error. -/
theorem Pre.fault {w : World} : ∀ {f : Nat} {v : Value} {ns : List Nd} {x : Value}, Pre w f v ns → firstOf 54 ns = some x →
    ∃ (b : Nat) (op path : ByteArray) (e : Value) (ms : List Nd) (k : Nat), x = .pointer (some ⟨b, 0, none⟩) ∧ w.cell? ⟨b, 0, none⟩ = some (.string op) ∧ w.cell? ⟨b, 1, none⟩ = some (.string path) ∧ w.cell? ⟨b, 2, none⟩ = some e ∧ (op.size ≤ 1000 ∧ path.size ≤ 1000) ∧ e ≠ .nilIface ∧ Pre w k e ms ∧ k < f ∧ chainOf ns = (op, path) :: chainOf ms
  | 0, v, ns, x, h, hx => by rw [h.2] at hx; cases hx
  | f + 1, v, ns, x, h, hx => by
    rcases h with h | ⟨m, h, hm⟩ | ⟨b, s, h, h2, hm⟩ | ⟨b, op, path, e, ms', h, h2, h3, h4, h9, h5, h6, hm⟩ | ⟨b, x1, x2, m1, m2, h, h3, h4, h5, h6, h7, h8, hm⟩
    · rw [h.2] at hx; cases hx
    · subst hm; rw [firstOf_skip 54 39 _ _ rfl, firstOf_nil] at hx; cases hx
    · subst hm; rw [firstOf_skip 54 47 _ _ rfl, firstOf_nil] at hx; cases hx
    · subst hm
      rw [firstOf_hit] at hx
      cases hx
      exact ⟨b, op, path, e, ms', f, rfl, h2, h3, h4, h9, h5, h6, Nat.lt_succ_self _, chainOf_hit _ _ _⟩
    · subst hm
      rw [firstOf_skip 54 72 _ _ rfl] at hx
      rcases hh : firstOf 54 m1 with _ | y
      · rw [firstOf_right _ _ _ hh] at hx
        obtain ⟨b, op, path, e, ms, k, g1, g2, g3, g4, g5, g6, g7, g8, g9⟩ := Pre.fault h8 hx
        exact ⟨b, op, path, e, ms, k, g1, g2, g3, g4, g5, g6, g7, by omega, by rw [chainOf_skip 72 _ _ rfl, chainOf_right _ _ hh]; exact g9⟩
      · rw [firstOf_left _ _ _ _ hh] at hx
        obtain ⟨b, op, path, e, ms, k, g1, g2, g3, g4, g5, g6, g7, g8, g9⟩ := Pre.fault h7 (hh.trans hx)
        exact ⟨b, op, path, e, ms, k, g1, g2, g3, g4, g5, g6, g7, by omega, by rw [chainOf_skip 72 _ _ rfl, chainOf_left _ _ _ hh]; exact g9⟩
/-- What errors.as leaves: nothing that was there has turned; or the target holds x. -/
def AsPost (w w' : World) (t : Addr) : Option Value → Prop
  | none => Below w.heap.size w w'
  | some x => ∃ w1, Below w.heap.size w w1 ∧ w' = w1.setCell t x
theorem frozen_old {w w' : World} {a : Addr} {v : Value} (hb : Below w.heap.size w w') (h : w.cell? a = some v) (hf : w.frozen? a = false) : w'.frozen? a = false := by
  have hlt : a.block < w.heap.size := by
    rcases Nat.lt_or_ge a.block w.heap.size with h' | h'
    · exact h'
    · simp [World.cell?, Array.getElem?_eq_none h'] at h
  exact (hb.frozen hlt).trans hf
theorem AsPost.from {w w0 w' : World} {t : Addr} {r : Option Value} (h : AsPost w0 w' t r) (hb : Below w.heap.size w w0) : AsPost w w' t r := by
  cases r with
  | none => exact bel2e hb h
  | some x => obtain ⟨w1, h1, h2⟩ := h; exact ⟨w1, bel2e hb h1, h2⟩
end Go.Proofs.YtlandjnhhcnbeaaDoor
