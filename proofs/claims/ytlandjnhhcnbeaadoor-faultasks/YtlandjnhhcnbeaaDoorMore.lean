/- Of an error: its numbers; how long its chain is; what single Unwraps lead to. -/
import Derived.Test.YtlandjnhhcnbeaaDoorFirst
namespace Go.Proofs.YtlandjnhhcnbeaaDoor
open Go.RowKit Go.Extern.Stop Go.Stop Go.Extern
set_option linter.unusedVariables false

theorem nums_skip (t : Nat) (x : Value × List (ByteArray × ByteArray)) (a : List Nd) (h : (t == 39) = false) : nums ((t, x) :: a) = nums a := by unfold nums; simp [h]
/-- The first number within. -/
theorem Pre.number {w : World} : ∀ {f : Nat} {v : Value} {ns : List Nd}, Pre w f v ns → (firstOf 39 ns = none ∧ nums ns = []) ∨ ∃ n l, firstOf 39 ns = some (.int .i64 n) ∧ nums ns = n :: l
  | 0, v, ns, h => .inl ⟨by rw [h.2]; rfl, by rw [h.2]; rfl⟩
  | f + 1, v, ns, h => by
    rcases h with h | ⟨m, h, hm⟩ | ⟨b, s, h, h2, hm⟩ | ⟨b, op, path, e, ms', h, h2, h3, h4, h9, h5, h6, hm⟩ | ⟨b, x1, x2, m1, m2, h, h3, h4, h5, h6, h7, h8, hm⟩
    · exact .inl ⟨by rw [h.2]; rfl, by rw [h.2]; rfl⟩
    · subst hm; exact .inr ⟨m, [], firstOf_hit _ _ _ _, rfl⟩
    · subst hm; exact .inl ⟨rfl, rfl⟩
    · subst hm; rw [firstOf_skip 39 54 _ _ rfl, nums_skip 54 _ _ rfl]; exact Pre.number h6
    · subst hm
      rw [firstOf_skip 39 72 _ _ rfl, nums_skip 72 _ _ rfl, nums_append]
      rcases Pre.number h7 with ⟨a1, a2⟩ | ⟨n, l, a1, a2⟩
      · rw [firstOf_right _ _ _ a1, a2]; exact Pre.number h8
      · exact .inr ⟨n, l ++ nums m2, firstOf_left _ _ _ _ a1, by rw [a2]; rfl⟩
/-- A chain is no longer than the error is deep. -/
theorem Pre.short {w : World} : ∀ (f : Nat) {v : Value} {ns : List Nd}, Pre w f v ns → (chainOf ns).length ≤ f := by
  intro f
  induction f using Nat.strongRecOn with
  | _ f ih =>
    intro v ns h
    rcases hh : firstOf 54 ns with _ | x
    · rw [chainOf_none _ hh]; simp
    · obtain ⟨b, op, path, e, ms, k, _, _, _, _, _, _, h7, h8, h9⟩ := Pre.fault h hh
      have := ih k h8 h7
      rw [h9]; simp; omega
/-- What single Unwraps lead to: the Faults ahead are gone. -/
def innerOf (ns : List Nd) : List Nd := ns.dropWhile fun x => x.1 == 54
theorem innerOf_fault (x : Value × List (ByteArray × ByteArray)) (ns : List Nd) : innerOf ((54, x) :: ns) = innerOf ns := by unfold innerOf; simp
theorem innerOf_skip (t : Nat) (x : Value × List (ByteArray × ByteArray)) (ns : List Nd) (h : (t == 54) = false) : innerOf ((t, x) :: ns) = (t, x) :: ns := by unfold innerOf; simp [h]
theorem pre_num (w : World) (f : Nat) (n : Int) : Pre w (f + 1) (.iface 39 (.int .i64 n)) [(39, .int .i64 n, [])] := .inr (.inl (⟨n, rfl, rfl⟩))
theorem pre_fault {w : World} {f b : Nat} {op path : ByteArray} {e : Value} {ms : List Nd} (h2 : w.cell? ⟨b, 0, none⟩ = some (.string op)) (h3 : w.cell? ⟨b, 1, none⟩ = some (.string path)) (h4 : w.cell? ⟨b, 2, none⟩ = some e) (ho : op.size ≤ 1000) (ha : path.size ≤ 1000) (he : e ≠ .nilIface) (hp : Pre w f e ms) :
    Pre w (f + 1) (.iface 54 (.pointer (some ⟨b, 0, none⟩))) ((54, .pointer (some ⟨b, 0, none⟩), (op, path) :: chainOf ms) :: ms) := .inr (.inr (.inr (.inl (⟨b, op, path, e, ms, rfl, h2, h3, h4, ⟨ho, ha⟩, he, hp, rfl⟩))))
theorem pre_leaf {w : World} (f b : Nat) {t : ByteArray} (h : w.cell? ⟨b, 0, none⟩ = some (.string t)) : Pre w (f + 1) (.iface 47 (.pointer (some ⟨b, 0, none⟩))) [(47, .pointer (some ⟨b, 0, none⟩), [(t, ⟨#[]⟩)])] := .inr (.inr (.inl (⟨b, t, rfl, h, rfl⟩)))
theorem pre_pair {w : World} {f b : Nat} {e1 e2 : Value} {m1 m2 : List Nd} (h3 : w.cell? ⟨b, 0, none⟩ = some e1) (h4 : w.cell? ⟨b, 1, none⟩ = some e2) (h5 : e1 ≠ .nilIface) (h6 : e2 ≠ .nilIface) (h7 : Pre w f e1 m1) (h8 : Pre w f e2 m2) :
    Pre w (f + 1) (.iface 72 (.pointer (some ⟨b, 0, none⟩))) ((72, .pointer (some ⟨b, 0, none⟩), []) :: (m1 ++ m2)) := .inr (.inr (.inr (.inr (⟨b, e1, e2, m1, m2, rfl, h3, h4, h5, h6, h7, h8, rfl⟩))))
end Go.Proofs.YtlandjnhhcnbeaaDoor
