/- Of an error: its numbers; how long its chain is; what single Unwraps lead to. -/
import Derived.Test.YtlandjnhhcnbeabDoorFirst
namespace Go.Proofs.YtlandjnhhcnbeabDoor
open Go.RowKit Go.Extern.Stop Go.Stop Go.Extern
set_option linter.unusedVariables false

theorem nums_skip (t : Nat) (x : Value × List (ByteArray × ByteArray)) (a : List Nd) (h : (t == 28) = false) : nums ((t, x) :: a) = nums a := by unfold nums; simp [h]
/-- The first number within. -/
theorem Pre.number {w : World} : ∀ {f : Nat} {v : Value} {ns : List Nd}, Pre w f v ns → (firstOf 28 ns = none ∧ nums ns = []) ∨ ∃ n l, firstOf 28 ns = some (.int .i64 n) ∧ nums ns = n :: l
  | 0, v, ns, h => .inl ⟨by rw [h.2]; rfl, by rw [h.2]; rfl⟩
  | f + 1, v, ns, h => by
    rcases h with h | ⟨m, h, hm⟩ | ⟨b, op, path, e, ms', h, h2, h3, h4, h9, h5, h6, hm⟩
    · exact .inl ⟨by rw [h.2]; rfl, by rw [h.2]; rfl⟩
    · subst hm; exact .inr ⟨m, [], firstOf_hit _ _ _ _, rfl⟩
    · subst hm; rw [firstOf_skip 28 23 _ _ rfl, nums_skip 23 _ _ rfl]; exact Pre.number h6
/-- A chain is no longer than the error is deep. -/
theorem Pre.short {w : World} : ∀ (f : Nat) {v : Value} {ns : List Nd}, Pre w f v ns → (chainOf ns).length ≤ f := by
  intro f
  induction f using Nat.strongRecOn with
  | _ f ih =>
    intro v ns h
    rcases hh : firstOf 23 ns with _ | x
    · rw [chainOf_none _ hh]; simp
    · obtain ⟨b, op, path, e, ms, k, _, _, _, _, _, _, h7, h8, h9⟩ := Pre.fault h hh
      have := ih k h8 h7
      rw [h9]; simp; omega
/-- What single Unwraps lead to: the Faults ahead are gone. -/
def innerOf (ns : List Nd) : List Nd := ns.dropWhile fun x => x.1 == 23
theorem innerOf_fault (x : Value × List (ByteArray × ByteArray)) (ns : List Nd) : innerOf ((23, x) :: ns) = innerOf ns := by unfold innerOf; simp
theorem innerOf_skip (t : Nat) (x : Value × List (ByteArray × ByteArray)) (ns : List Nd) (h : (t == 23) = false) : innerOf ((t, x) :: ns) = (t, x) :: ns := by unfold innerOf; simp [h]
theorem pre_num (w : World) (f : Nat) (n : Int) : Pre w (f + 1) (.iface 28 (.int .i64 n)) [(28, .int .i64 n, [])] := .inr (.inl (⟨n, rfl, rfl⟩))
theorem pre_fault {w : World} {f b : Nat} {op path : ByteArray} {e : Value} {ms : List Nd} (h2 : w.cell? ⟨b, 0, none⟩ = some (.string op)) (h3 : w.cell? ⟨b, 1, none⟩ = some (.string path)) (h4 : w.cell? ⟨b, 2, none⟩ = some e) (ho : op.size ≤ 1000) (ha : path.size ≤ 1000) (he : e ≠ .nilIface) (hp : Pre w f e ms) :
    Pre w (f + 1) (.iface 23 (.pointer (some ⟨b, 0, none⟩))) ((23, .pointer (some ⟨b, 0, none⟩), (op, path) :: chainOf ms) :: ms) := .inr (.inr (⟨b, op, path, e, ms, rfl, h2, h3, h4, ⟨ho, ha⟩, he, hp, rfl⟩))
end Go.Proofs.YtlandjnhhcnbeabDoor
