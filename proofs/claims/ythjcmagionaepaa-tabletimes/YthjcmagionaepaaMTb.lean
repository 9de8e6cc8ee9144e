/- Names through the epochs: the mathematics of a run. (No program in it.) -/
import Derived.Test.YthjcmagionaepaaMTab
namespace Go.Proofs.Ythjcmagionaepaa
open Go.RowKit Kit
set_option linter.unusedVariables false

/-- A table: rows as they came, the last epoch. -/
structure Tb where
  rs : List Rw
  last : Int
def tb0 : Tb := ⟨[], 0⟩
/-- What Add answers: 0, 1 (ErrArg), 6 (ErrThere). -/
def addC (t : Tb) (name : ByteArray) (ino ep : Int) : Int := if mayB t.last name ep = true ∧ 1 ≤ ino then (if t.rs.any (openP name) = true then 6 else 0) else 1
def addT (t : Tb) (name : ByteArray) (ino ep : Int) : Tb := if addC t name ino ep = 0 then ⟨t.rs ++ [⟨name, ino, ep, 0⟩], ep⟩ else t
/-- What Remove answers: 0, 1, 5 (ErrNone). -/
def remC (t : Tb) (name : ByteArray) (ep : Int) : Int := if mayB t.last name ep = true then (if t.rs.any (openP name) = true then 0 else 5) else 1
def remT (t : Tb) (name : ByteArray) (ep : Int) : Tb := if remC t name ep = 0 then ⟨endR t.rs name ep, ep⟩ else t
def keptR (rs : List Rw) (es : List Int) : List Rw := rs.filter fun t => needB t.born t.died es
def cleanT (t : Tb) (es : List Int) : Tb := ⟨keptR t.rs es, t.last⟩
def cleanN (t : Tb) (es : List Int) : Int := (t.rs.length : Int) - ((keptR t.rs es).length : Int)
theorem add_cases (t : Tb) (name : ByteArray) (ino ep : Int) :
    (addC t name ino ep = 1 ∧ addT t name ino ep = t ∧ ¬ (mayB t.last name ep = true ∧ 1 ≤ ino)) ∨
    (addC t name ino ep = 6 ∧ addT t name ino ep = t ∧ mayB t.last name ep = true ∧ 1 ≤ ino ∧ t.rs.any (openP name) = true) ∨
    (addC t name ino ep = 0 ∧ addT t name ino ep = ⟨t.rs ++ [⟨name, ino, ep, 0⟩], ep⟩ ∧ mayB t.last name ep = true ∧ 1 ≤ ino ∧ t.rs.any (openP name) = false) := by
  unfold addT addC
  by_cases h : mayB t.last name ep = true ∧ 1 ≤ ino
  · rw [if_pos h]
    cases ho : t.rs.any (openP name) with
    | true => exact .inr (.inl ⟨rfl, rfl, h.1, h.2, rfl⟩)
    | false => exact .inr (.inr ⟨rfl, rfl, h.1, h.2, rfl⟩)
  · rw [if_neg h]
    exact .inl ⟨rfl, rfl, h⟩
theorem rem_cases (t : Tb) (name : ByteArray) (ep : Int) :
    (remC t name ep = 1 ∧ remT t name ep = t ∧ mayB t.last name ep = false) ∨
    (remC t name ep = 5 ∧ remT t name ep = t ∧ mayB t.last name ep = true ∧ t.rs.any (openP name) = false) ∨
    (remC t name ep = 0 ∧ remT t name ep = ⟨endR t.rs name ep, ep⟩ ∧ mayB t.last name ep = true ∧ t.rs.any (openP name) = true) := by
  unfold remT remC
  cases h : mayB t.last name ep with
  | false => exact .inl ⟨by simp, by simp, rfl⟩
  | true =>
    cases ho : t.rs.any (openP name) with
    | true => exact .inr (.inr ⟨by simp, by simp, rfl, rfl⟩)
    | false => exact .inr (.inl ⟨by simp, by simp, rfl, rfl⟩)
theorem endR_len (rs : List Rw) (name : ByteArray) (e : Int) : (endR rs name e).length = rs.length := by
  unfold endR
  split
  · rw [List.length_set]
  · rfl
theorem keptR_len (rs : List Rw) (es : List Int) : (keptR rs es).length ≤ rs.length := List.length_filter_le _ _
theorem addT_len (t : Tb) (name : ByteArray) (ino ep : Int) : (addT t name ino ep).rs.length ≤ t.rs.length + 1 := by
  rcases add_cases t name ino ep with ⟨_, h, _⟩ | ⟨_, h, _⟩ | ⟨_, h, _⟩ <;> rw [h] <;> simp
theorem remT_len (t : Tb) (name : ByteArray) (ep : Int) : (remT t name ep).rs.length = t.rs.length := by
  rcases rem_cases t name ep with ⟨_, h, _⟩ | ⟨_, h, _⟩ | ⟨_, h, _⟩ <;> rw [h]
  exact endR_len _ _ _
end Go.Proofs.Ythjcmagionaepaa
