/- The document's table: Names, Clean. -/
import Derived.Test.YthjcmagionaepaaRTabM
import Derived.Test.YthjcmagionaepaaRSorted
namespace Go.Proofs.Ythjcmagionaepaa
open Go.RowKit Kit
set_option linter.unusedVariables false

def namesW (f : Rw → Bool) (l : List Rw) : List ByteArray := (l.filter f).map Rw.name
theorem namesW_snoc (f : Rw → Bool) (l : List Rw) (i : Nat) (h : i < l.length) : namesW f (l.take (i + 1)) = namesW f (l.take i) ++ (if f l[i] then [l[i].name] else []) := by
  unfold namesW
  rw [List.take_succ_eq_append_getElem h, List.filter_append, List.map_append]
  congr 1
  by_cases hf : f l[i] = true
  · rw [List.filter_cons_of_pos hf, if_pos hf]; rfl
  · rw [List.filter_cons_of_neg hf, if_neg hf]; rfl
theorem namesW_len (f : Rw → Bool) (l : List Rw) : (namesW f l).length ≤ l.length := by
  unfold namesW
  rw [List.length_map]
  exact List.length_filter_le _ _
theorem strs_snoc (a : List ByteArray) (x : ByteArray) : strs (a ++ [x]) = strs a ++ [.string x] := by simp [strs]
theorem filter_snoc (f : Rw → Bool) (l : List Rw) (i : Nat) (h : i < l.length) : (l.take (i + 1)).filter f = (l.take i).filter f ++ (if f l[i] then [l[i]] else []) := by
  rw [List.take_succ_eq_append_getElem h, List.filter_append]
  congr 1
  by_cases hf : f l[i] = true
  · rw [List.filter_cons_of_pos hf, if_pos hf]; rfl
  · rw [List.filter_cons_of_neg hf, if_neg hf]; rfl
end Go.Proofs.Ythjcmagionaepaa
