/- What an error is whose nodes are known. -/
import Derived.Test.YtlandjnhhcnbeaaDoorArgs
import Derived.Test.YtlandjnhhcnbeaaDoorInner
namespace Go.Proofs.YtlandjnhhcnbeaaDoor
open Go.RowKit Kit
set_option linter.unusedVariables false

theorem Pre.is_num {w : World} : ∀ {f : Nat} {v : Value} {n : Int} {l : List (ByteArray × ByteArray)}, Pre w f v [(39, .int .i64 n, l)] → v = .iface 39 (.int .i64 n)
  | 0, v, n, l, h => by cases h.2
  | f + 1, v, n, l, h => by
    rcases h with h | ⟨m, h, hm⟩ | ⟨b, s, h, h2, hm⟩ | ⟨b, op, path, e, ms', h, h2, h3, h4, h9, h5, h6, hm⟩ | ⟨b, x1, x2, m1, m2, h, h3, h4, h5, h6, h7, h8, hm⟩
    · cases h.2
    · cases hm; exact h
    · cases hm
    · cases hm
    · cases hm
theorem Pre.is_leaf {w : World} : ∀ {f : Nat} {v : Value} {x : Value} {s : ByteArray} {t : ByteArray}, Pre w f v [(47, x, [(s, t)])] → ∃ b, v = .iface 47 (.pointer (some ⟨b, 0, none⟩)) ∧ w.cell? ⟨b, 0, none⟩ = some (.string s)
  | 0, v, x, s, t, h => by cases h.2
  | f + 1, v, x, s, t, h => by
    rcases h with h | ⟨m, h, hm⟩ | ⟨b, s', h, h2, hm⟩ | ⟨b, op, path, e, ms', h, h2, h3, h4, h9, h5, h6, hm⟩ | ⟨b, x1, x2, m1, m2, h, h3, h4, h5, h6, h7, h8, hm⟩
    · cases h.2
    · cases hm
    · cases hm; exact ⟨b, h, h2⟩
    · cases hm
    · cases hm
theorem Pre.some_ {w : World} {f : Nat} {v : Value} {ns : List Nd} (h : Pre w f v ns) (hn : ns ≠ []) : v ≠ .nilIface := fun e => by subst e; exact hn (Pre.nil h)
theorem assert_num (v : Value) (w : World) : (Instr.typeAssert (.iface 39 v) 29 39 true).run Tryd.prog w = .ok (.tuple #[v, .bool true]) w := by kernel_rfl
theorem assert_plain (v : Value) (w : World) : (Instr.typeAssert (.iface 47 v) 29 47 true).run Tryd.prog w = .ok (.tuple #[v, .bool true]) w := by kernel_rfl
end Go.Proofs.YtlandjnhhcnbeaaDoor
