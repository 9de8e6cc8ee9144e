/- What is within the error that a Mold makes, by the Mold alone. -/
import Derived.Test.YtlandjnhhcnbeaaDoorEnds
import Derived.Test.YtlandjnhhcnbeaaDoorMoldFirst2
namespace Go.Proofs.YtlandjnhhcnbeaaDoor
open Go.RowKit Kit
set_option linter.unusedVariables false

/-- One that is within, its address left out. -/
abbrev Sh := Nat × Int × List (ByteArray × ByteArray)
def shape (x : Nd) : Sh := (x.1, intOf x.2.1, x.2.2)
def shapes (ns : List Nd) : List Sh := ns.map shape
def chainS (l : List Sh) : List (ByteArray × ByteArray) := ((l.find? fun x => x.1 == 54).map fun x => x.2.2).getD []
def numsS (l : List Sh) : List Int := (l.filter fun x => x.1 == 39).map fun x => x.2.1
def innerS (l : List Sh) : List Sh := l.dropWhile fun x => x.1 == 54
theorem chainS_shapes (ns : List Nd) : chainS (shapes ns) = chainOf ns := by
  unfold chainS chainOf shapes
  rw [List.find?_map, Option.map_map]; rfl
theorem numsS_shapes (ns : List Nd) : numsS (shapes ns) = nums ns := by
  unfold numsS nums shapes
  rw [List.filter_map, List.map_map]; rfl
theorem innerS_shapes : ∀ ns : List Nd, innerS (shapes ns) = shapes (innerOf ns)
  | [] => rfl
  | x :: r => by
    have ih := innerS_shapes r
    unfold innerS innerOf shapes at *
    by_cases h : (x.1 == 54) = true
    · rw [List.map_cons, List.dropWhile_cons_of_pos (by exact h), List.dropWhile_cons_of_pos (by exact h)]; exact ih
    · rw [List.map_cons, List.dropWhile_cons_of_neg (by exact h), List.dropWhile_cons_of_neg (by exact h)]; rfl
theorem numsS_append (a b : List Sh) : numsS (a ++ b) = numsS a ++ numsS b := by unfold numsS; rw [List.filter_append, List.map_append]
def faultS (op path : ByteArray) (l : List Sh) : List Sh := if l.isEmpty = true then [] else (54, 0, (op, path) :: chainS l) :: l
def bothS (a b : List Sh) : List Sh := if a.isEmpty = true then b else if b.isEmpty = true then a else (72, 0, []) :: (a ++ b)
/-- What is within. -/
def nodesT : (n : Nat) → Tr n → List Sh
  | 0, _ => []
  | _ + 1, none => []
  | n + 1, some (l, x, y) => if l.kind = 1 then [(39, l.num, [])] else if l.kind = 2 then faultS l.op l.path (nodesT n x) else if l.kind = 3 then bothS (nodesT n x) (nodesT n y) else if l.kind = 4 then [(47, 0, [(l.op, ⟨#[]⟩)])] else []
theorem nodesT_some (n : Nat) (l : Lab) (x y : Tr n) : nodesT (n + 1) (some (l, x, y)) = if l.kind = 1 then [(39, l.num, [])] else if l.kind = 2 then faultS l.op l.path (nodesT n x) else if l.kind = 3 then bothS (nodesT n x) (nodesT n y) else if l.kind = 4 then [(47, 0, [(l.op, ⟨#[]⟩)])] else [] := rfl
theorem noneT_some (n : Nat) (l : Lab) (x y : Tr n) : noneT (n + 1) (some (l, x, y)) = if l.kind = 1 ∨ l.kind = 4 then false else if l.kind = 2 then noneT n x else if l.kind = 3 then noneT n x && noneT n y else true := rfl
theorem faultS_empty (op path : ByteArray) (l : List Sh) : (faultS op path l).isEmpty = l.isEmpty := by
  unfold faultS
  cases l <;> simp
theorem bothS_empty (a b : List Sh) : (bothS a b).isEmpty = (a.isEmpty && b.isEmpty) := by
  unfold bothS
  cases a <;> cases b <;> simp
theorem none_nodes : ∀ (n : Nat) (t : Tr n), noneT n t = (nodesT n t).isEmpty
  | 0, _ => rfl
  | _ + 1, none => rfl
  | n + 1, some (l, x, y) => by
    have hx := none_nodes n x
    have hy := none_nodes n y
    rw [noneT_some, nodesT_some]
    by_cases k1 : l.kind = 1
    · simp [k1]
    by_cases k2 : l.kind = 2
    · have e1 : ¬ (2 : Int) = 1 := by decide
      have e4 : ¬ (2 : Int) = 4 := by decide
      simp only [k2, e1, e4, or_self, if_false, if_true, faultS_empty]; exact hx
    by_cases k3 : l.kind = 3
    · have e1 : ¬ (3 : Int) = 1 := by decide
      have e2 : ¬ (3 : Int) = 2 := by decide
      have e4 : ¬ (3 : Int) = 4 := by decide
      simp only [k3, e1, e2, e4, or_self, if_false, if_true, bothS_empty, hx, hy]
    by_cases k4 : l.kind = 4
    · simp [k4]
    · simp [k1, k2, k3, k4]
theorem chainS_nil : chainS [] = [] := rfl
theorem chainS_fault (a : Int) (l : List (ByteArray × ByteArray)) (r : List Sh) : chainS ((54, a, l) :: r) = l := by unfold chainS; simp
theorem chainS_skip (t : Nat) (x : Int × List (ByteArray × ByteArray)) (r : List Sh) (h : (t == 54) = false) : chainS ((t, x) :: r) = chainS r := by unfold chainS; rw [List.find?_cons]; simp only [h]
/-- Of every Fault the chain opens with its own place. -/
def Kept (l : List Sh) : Prop := ∀ x ∈ l, x.1 = 54 → x.2.2 ≠ []
theorem chainS_append {a : List Sh} (b : List Sh) (h : Kept a) : chainS (a ++ b) = if (chainS a).isEmpty = true then chainS b else chainS a := by
  unfold chainS
  rw [List.find?_append]
  cases hf : a.find? fun x => x.1 == 54 with
  | none => simp
  | some x =>
    have hm := List.mem_of_find?_eq_some hf
    have ht := List.find?_some hf
    have := h x hm (by simpa using ht)
    have e : x.2.2.isEmpty = false := by cases hx : x.2.2 with
      | nil => exact absurd hx this
      | cons _ _ => rfl
    simp [e]
theorem kept_nodes : ∀ (n : Nat) (t : Tr n), Kept (nodesT n t)
  | 0, _ => fun x hx => by cases hx
  | _ + 1, none => fun x hx => by cases hx
  | n + 1, some (l, x, y) => by
    have hx := kept_nodes n x
    have hy := kept_nodes n y
    rw [nodesT_some]
    split
    · intro z hz; simp at hz; subst hz; intro h; cases h
    split
    · unfold faultS
      split
      · intro z hz; cases hz
      · intro z hz
        rcases List.mem_cons.1 hz with rfl | hz
        · intro _; simp
        · exact hx z hz
    split
    · unfold bothS
      split
      · exact hy
      split
      · exact hx
      · intro z hz
        rcases List.mem_cons.1 hz with rfl | hz
        · intro h; cases h
        · rcases List.mem_append.1 hz with hz | hz
          · exact hx z hz
          · exact hy z hz
    split
    · intro z hz; simp at hz; subst hz; intro h; cases h
    · intro z hz; cases hz
/-- The chain of a Mold is that of what it makes. -/
theorem chain_nodes : ∀ (n : Nat) (t : Tr n), chainT n t = chainS (nodesT n t)
  | 0, _ => rfl
  | _ + 1, none => rfl
  | n + 1, some (l, x, y) => by
    have hx := chain_nodes n x
    have hy := chain_nodes n y
    have kx := kept_nodes n x
    have hn := none_nodes (n + 1) (some (l, x, y))
    rw [chainT]
    split
    · rename_i h0
      rw [hn] at h0
      rw [List.isEmpty_iff.1 h0]; rfl
    rename_i h0
    rw [hn] at h0
    rw [nodesT_some] at h0 ⊢
    by_cases k2 : l.kind = 2
    · have e1 : ¬ (2 : Int) = 1 := by decide
      simp only [k2, e1, if_false, if_true] at h0 ⊢
      rw [faultS_empty] at h0
      unfold faultS
      rw [if_neg h0, chainS_fault, hx]
    by_cases k3 : l.kind = 3
    · have e1 : ¬ (3 : Int) = 1 := by decide
      have e2 : ¬ (3 : Int) = 2 := by decide
      simp only [k3, e1, e2, if_false, if_true] at h0 ⊢
      unfold bothS
      by_cases ha : (nodesT n x).isEmpty = true
      · rw [if_pos ha, hx, List.isEmpty_iff.1 ha, chainS_nil]; exact hy
      by_cases hb : (nodesT n y).isEmpty = true
      · rw [if_neg ha, if_pos hb, hx, hy, List.isEmpty_iff.1 hb, chainS_nil]
        by_cases he : (chainS (nodesT n x)).isEmpty = true
        · rw [if_pos he]; exact (List.isEmpty_iff.1 he).symm
        · rw [if_neg he]
      · rw [if_neg ha, if_neg hb, chainS_skip 72 _ _ rfl, chainS_append _ kx, hx, hy]
    · simp only [k2, k3, if_false]
      split
      · rfl
      split
      · rfl
      · rfl
end Go.Proofs.YtlandjnhhcnbeaaDoor
