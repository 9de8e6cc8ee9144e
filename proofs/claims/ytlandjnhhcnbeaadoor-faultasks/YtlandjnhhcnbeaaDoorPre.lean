/- What is within an error, in memory: each by its type, its value and what it says, in order. -/
import Derived.Test.YtlandjnhhcnbeaaDoorErrs
import Derived.Deep.LoopGhost
import Derived.Deep.Quiet
namespace Go.Proofs.YtlandjnhhcnbeaaDoor
open Go.RowKit Go.Extern.Stop Go.Stop Go.Extern
set_option linter.unusedVariables false

/-- One that is within: its type's number, its value; of a Fault the chain of what was done, and where, from itself on; of a plain error its words. -/
abbrev Nd := Nat × Value × List (ByteArray × ByteArray)
/-- The first Fault's chain. -/
def chainOf (ns : List Nd) : List (ByteArray × ByteArray) := ((ns.find? fun x => x.1 == 54).map fun x => x.2.2).getD []
/-- The error v has just these within it, in order. -/
def Pre (w : World) : Nat → Value → List Nd → Prop
  | 0, v, ns => v = .nilIface ∧ ns = []
  | f + 1, v, ns =>
    (v = .nilIface ∧ ns = []) ∨
    (∃ n : Int, v = .iface 39 (.int .i64 n) ∧ ns = [(39, .int .i64 n, [])]) ∨
    (∃ (b : Nat) (s : ByteArray), v = .iface 47 (.pointer (some ⟨b, 0, none⟩)) ∧ w.cell? ⟨b, 0, none⟩ = some (.string s) ∧ ns = [(47, .pointer (some ⟨b, 0, none⟩), [(s, ⟨#[]⟩)])]) ∨
    (∃ (b : Nat) (op path : ByteArray) (e : Value) (ms : List Nd), v = .iface 54 (.pointer (some ⟨b, 0, none⟩)) ∧ w.cell? ⟨b, 0, none⟩ = some (.string op) ∧ w.cell? ⟨b, 1, none⟩ = some (.string path) ∧ w.cell? ⟨b, 2, none⟩ = some e ∧ (op.size ≤ 1000 ∧ path.size ≤ 1000) ∧ e ≠ .nilIface ∧ Pre w f e ms ∧ ns = (54, .pointer (some ⟨b, 0, none⟩), (op, path) :: chainOf ms) :: ms) ∨
    (∃ (b : Nat) (e1 e2 : Value) (m1 m2 : List Nd), v = .iface 72 (.pointer (some ⟨b, 0, none⟩)) ∧ w.cell? ⟨b, 0, none⟩ = some e1 ∧ w.cell? ⟨b, 1, none⟩ = some e2 ∧ e1 ≠ .nilIface ∧ e2 ≠ .nilIface ∧ Pre w f e1 m1 ∧ Pre w f e2 m2 ∧ ns = (72, .pointer (some ⟨b, 0, none⟩), []) :: (m1 ++ m2))
/-- The numbers within. -/
def nums (ns : List Nd) : List Int := (ns.filter fun x => x.1 == 39).map fun x => intOf x.2.1
theorem nums_append (a b : List Nd) : nums (a ++ b) = nums a ++ nums b := by unfold nums; rw [List.filter_append, List.map_append]
theorem Pre.up {w : World} : ∀ {f : Nat} {v : Value} {ns : List Nd}, Pre w f v ns → Pre w (f + 1) v ns
  | 0, v, ns, h => .inl h
  | f + 1, v, ns, h => by
    rcases h with h | ⟨m, h, hm⟩ | ⟨b, s, h, h2, hm⟩ | ⟨b, op, path, e, ms', h, h2, h3, h4, h9, h5, h6, hm⟩ | ⟨b, x1, x2, m1, m2, h, h3, h4, h5, h6, h7, h8, hm⟩
    · exact .inl (h)
    · exact .inr (.inl (⟨m, h, hm⟩))
    · exact .inr (.inr (.inl (⟨b, s, h, h2, hm⟩)))
    · exact .inr (.inr (.inr (.inl (⟨b, op, path, e, ms', h, h2, h3, h4, h9, h5, Pre.up h6, hm⟩))))
    · exact .inr (.inr (.inr (.inr (⟨b, x1, x2, m1, m2, h, h3, h4, h5, h6, Pre.up h7, Pre.up h8, hm⟩))))
theorem cell_old {w w' : World} {a : Addr} {v : Value} (hb : Below w.heap.size w w') (h : w.cell? a = some v) : w'.cell? a = some v := by
  have hlt : a.block < w.heap.size := by
    rcases Nat.lt_or_ge a.block w.heap.size with h' | h'
    · exact h'
    · simp [World.cell?, Array.getElem?_eq_none h'] at h
  exact (hb.cell hlt).trans h
theorem bel2e {w w1 w2 : World} (h : Below w.heap.size w w1) (k : Below w1.heap.size w1 w2) : Below w.heap.size w w2 := h.trans (k.mono h.size)
theorem Pre.below {w w' : World} (hb : Below w.heap.size w w') : ∀ {f : Nat} {v : Value} {ns : List Nd}, Pre w f v ns → Pre w' f v ns
  | 0, v, ns, h => h
  | f + 1, v, ns, h => by
    rcases h with h | ⟨m, h, hm⟩ | ⟨b, s, h, h2, hm⟩ | ⟨b, op, path, e, ms', h, h2, h3, h4, h9, h5, h6, hm⟩ | ⟨b, x1, x2, m1, m2, h, h3, h4, h5, h6, h7, h8, hm⟩
    · exact .inl (h)
    · exact .inr (.inl (⟨m, h, hm⟩))
    · exact .inr (.inr (.inl (⟨b, s, h, cell_old hb h2, hm⟩)))
    · exact .inr (.inr (.inr (.inl (⟨b, op, path, e, ms', h, cell_old hb h2, cell_old hb h3, cell_old hb h4, h9, h5, Pre.below hb h6, hm⟩))))
    · exact .inr (.inr (.inr (.inr (⟨b, x1, x2, m1, m2, h, cell_old hb h3, cell_old hb h4, h5, h6, Pre.below hb h7, Pre.below hb h8, hm⟩))))

theorem unwrap_any (b : Nat) (e : Value) (w : World) (h : w.cell? ⟨b, 2, none⟩ = some e) : Calls Tryd.prog 67 #[.pointer (some ⟨b, 0, none⟩)] w fun r w' => r = .returned e ∧ w' = w := by
  go_enter Tryd.func67, Tryd.ntmps67
  go_wp2
  go_ret
  exact ⟨rfl, rfl⟩
set_option maxRecDepth 4000 in
set_option maxHeartbeats 1000000 in
theorem unwraps_any (b u1 u2 : Nat) (y1 y2 : Value) (w : World) (h1 : w.cell? ⟨b, 0, none⟩ = some (.iface u1 y1)) (h2 : w.cell? ⟨b, 1, none⟩ = some (.iface u2 y2)) : Calls Tryd.prog 69 #[.pointer (some ⟨b, 0, none⟩)] w fun r w' =>
    ∃ g, r = .returned (.slice (some ⟨g, 0, none⟩) 2 2) ∧ w'.cell? ⟨g, 0, none⟩ = some (.iface u1 y1) ∧ w'.cell? ⟨g, 1, none⟩ = some (.iface u2 y2) ∧ Below w.heap.size w w' := by
  go_enter Tryd.func69, Tryd.ntmps69
  go_wp2
  go_region
  go_wp2
  go_ret
  refine ⟨w.heap.size, rfl, by simp, by simp, ?_⟩
  first
  | exact ((Below.refl _ _).drew).alloc (Nat.le_refl _) _
  | exact ((Below.refl _ _).alloc (Nat.le_refl _) _).drew
theorem Pre.mono {w : World} {f g : Nat} {v : Value} {ns : List Nd} (h : Pre w f v ns) (hg : f ≤ g) : Pre w g v ns := by
  induction g with
  | zero => have : f = 0 := by omega
            subst this; exact h
  | succ g ih =>
    by_cases e : f = g + 1
    · subst e; exact h
    · exact (ih (by omega)).up
theorem Pre.form {w : World} : ∀ {f : Nat} {v : Value} {ns : List Nd}, Pre w f v ns → v = .nilIface ∨ ∃ u x, v = .iface u x
  | 0, v, ns, h => .inl h.1
  | f + 1, v, ns, h => by
    rcases h with h | ⟨m, h, hm⟩ | ⟨b, s, h, h2, hm⟩ | ⟨b, op, path, e, ms', h, h2, h3, h4, h9, h5, h6, hm⟩ | ⟨b, x1, x2, m1, m2, h, h3, h4, h5, h6, h7, h8, hm⟩
    · exact .inl h.1
    · exact .inr ⟨_, _, h⟩
    · exact .inr ⟨_, _, h⟩
    · exact .inr ⟨_, _, h⟩
    · exact .inr ⟨_, _, h⟩
theorem Pre.nil {w : World} : ∀ {f : Nat} {ns : List Nd}, Pre w f .nilIface ns → ns = []
  | 0, ns, h => h.2
  | f + 1, ns, h => by
    rcases h with h | ⟨m, h, hm⟩ | ⟨b, s, h, h2, hm⟩ | ⟨b, op, path, e, ms', h, h2, h3, h4, h9, h5, h6, hm⟩ | ⟨b, x1, x2, m1, m2, h, h3, h4, h5, h6, h7, h8, hm⟩
    · exact h.2
    · cases h
    · cases h
    · cases h
    · cases h
theorem Pre.empty {w : World} : ∀ {f : Nat} {v : Value}, Pre w f v [] → v = .nilIface
  | 0, v, h => h.1
  | f + 1, v, h => by
    rcases h with h | ⟨m, h, hm⟩ | ⟨b, s, h, h2, hm⟩ | ⟨b, op, path, e, ms', h, h2, h3, h4, h9, h5, h6, hm⟩ | ⟨b, x1, x2, m1, m2, h, h3, h4, h5, h6, h7, h8, hm⟩
    · exact h.1
    · cases hm
    · cases hm
    · cases hm
    · cases hm
end Go.Proofs.YtlandjnhhcnbeaaDoor
