/- What a program's table is held to: one contract a function. -/
import Derived.Test.YthjcmagionaepaaRUni
import Derived.Test.YthjcmagionaepaaMRun
import Derived.Test.YthjcmagionaepaaLCode
namespace Go.Proofs.Ythjcmagionaepaa
open Go.RowKit Kit
set_option linter.unusedVariables false

/-- An answer that is an error: none, or a number of api.Errno. -/
def errV (c : Int) : Value := if c = 0 then .nilIface else .iface 42 (.int .i64 c)
theorem addC_in (t : Tb) (name : ByteArray) (ino ep : Int) : addC t name ino ep = 0 ∨ addC t name ino ep = 1 ∨ addC t name ino ep = 6 := by
  rcases add_cases t name ino ep with ⟨h, _⟩ | ⟨h, _⟩ | ⟨h, _⟩ <;> rw [h] <;> simp
theorem remC_in (t : Tb) (name : ByteArray) (ep : Int) : remC t name ep = 0 ∨ remC t name ep = 1 ∨ remC t name ep = 5 := by
  rcases rem_cases t name ep with ⟨h, _⟩ | ⟨h, _⟩ | ⟨h, _⟩ <;> rw [h] <;> simp
theorem codeV_any (c : Int) (h : c = 0 ∨ c = 1 ∨ c = 5 ∨ c = 6) (w : World) : Calls Try.prog 9 #[errV c] w fun e w' => e = .returned (.int .i64 c) ∧ w' = w := by
  rcases h with rfl | rfl | rfl | rfl
  · exact code_nil w
  · exact code_num 1 w (by omega) (by omega)
  · exact code_num 5 w (by omega) (by omega)
  · exact code_num 6 w (by omega) (by omega)
/-- T w p B F t: at p the table t is shown; F: its blocks, from B on. -/
structure TabK (T : World → Nat → Nat → (Nat → Prop) → Tb → Prop) : Prop where
  below : ∀ {w w' : World} {p B : Nat} {F : Nat → Prop} {t : Tb}, T w p B F t → Below w.heap.size w w' → T w' p B F t
  lo : ∀ {w : World} {p B : Nat} {F : Nat → Prop} {t : Tb}, T w p B F t → ∀ k, F k → B ≤ k ∧ k < w.heap.size
  mono : ∀ {w : World} {p B C : Nat} {F : Nat → Prop} {t : Tb}, T w p B F t → C ≤ B → T w p C F t
  stay : ∀ {w w' : World} {p B : Nat} {F G G' : Nat → Prop} {t : Tb}, T w p B F t → TurnF G G' w w' → (∀ k, F k → ¬ G k) → T w' p B F t
  new : ∀ w : World, Calls Try.prog 5 #[] w fun x w' => ∃ p F, x = .returned (.pointer (some ⟨p, 0, none⟩)) ∧ T w' p w.heap.size F tb0 ∧ Below w.heap.size w w'
  add : ∀ {w : World} {p B : Nat} {F : Nat → Prop} {t : Tb} (name : ByteArray) (ino ep : Int), T w p B F t → Inv t → t.rs.length ≤ 900 → name.size ≤ 2000 →
    Calls Try.prog 6 #[.pointer (some ⟨p, 0, none⟩), .string name, .int .i64 ino, .int .i64 ep] w fun x w' => x = .returned (errV (addC t name ino ep)) ∧ ∃ F', T w' p B F' (addT t name ino ep) ∧ TurnF F F' w w'
  rem : ∀ {w : World} {p B : Nat} {F : Nat → Prop} {t : Tb} (name : ByteArray) (ep : Int), T w p B F t → Inv t → t.rs.length ≤ 900 → name.size ≤ maxLen →
    Calls Try.prog 8 #[.pointer (some ⟨p, 0, none⟩), .string name, .int .i64 ep] w fun x w' => x = .returned (errV (remC t name ep)) ∧ ∃ F', T w' p B F' (remT t name ep) ∧ TurnF F F' w w'
  find : ∀ {w : World} {p B : Nat} {F : Nat → Prop} {t : Tb} (name : ByteArray) (ep : Int), T w p B F t → Inv t → t.rs.length ≤ 900 → name.size ≤ maxLen →
    Calls Try.prog 10 #[.pointer (some ⟨p, 0, none⟩), .string name, .int .i64 ep] w fun x w' => x = .returned (.tuple #[.int .i64 (foundI t.rs name ep), .bool (foundB t.rs name ep)]) ∧ Below w.heap.size w w'
  all : ∀ {w : World} {p B : Nat} {F : Nat → Prop} {t : Tb}, T w p B F t → Inv t → t.rs.length ≤ 900 →
    Calls Try.prog 11 #[.pointer (some ⟨p, 0, none⟩)] w fun x w' => ∃ r, x = .returned r ∧ SeesE rwE w' r (allW t.rs) ∧ Below w.heap.size w w'
  last : ∀ {w : World} {p B : Nat} {F : Nat → Prop} {t : Tb}, T w p B F t →
    Calls Try.prog 12 #[.pointer (some ⟨p, 0, none⟩)] w fun x w' => x = .returned (.int .i64 t.last) ∧ Below w.heap.size w w'
variable {T : World → Nat → Nat → (Nat → Prop) → Tb → Prop}
def bfootT (F : Nat → Prop) (q : Nat) (sv : Value) (k : Nat) : Prop := F k ∨ tfoot q sv k
end Go.Proofs.Ythjcmagionaepaa
