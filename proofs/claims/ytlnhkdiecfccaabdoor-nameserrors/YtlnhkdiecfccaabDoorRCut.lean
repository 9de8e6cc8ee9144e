/- dolmenref1.Cut: what one call answers. -/
import Derived.Test.YtlnhkdiecfccaabDoorRLetter
import Derived.Test.YtlnhkdiecfccaabDoorKitVals
import Derived.Test.YtlnhkdiecfccaabDoorKitRows
namespace Go.Proofs.YtlnhkdiecfccaabDoor
open Go.RowKit Kit
set_option linter.unusedVariables false

/-- A text at each place of a byte. -/
def cutL (c : Int) : List Int → List (List Int)
  | [] => [[]]
  | x :: r => if x = c then [] :: cutL c r else match cutL c r with
    | [] => [[x]]
    | p :: q => (x :: p) :: q
theorem cutL_free (c : Int) : ∀ p : List Int, (∀ x ∈ p, x ≠ c) → cutL c p = [p]
  | [], _ => rfl
  | x :: p, h => by
    rw [cutL, if_neg (h x (by simp)), cutL_free c p (fun y hy => h y (by simp [hy]))]
theorem cutL_at (c : Int) (r : List Int) : ∀ p : List Int, (∀ x ∈ p, x ≠ c) → cutL c (p ++ c :: r) = p :: cutL c r
  | [], _ => by show cutL c (c :: r) = _; rw [cutL, if_pos rfl]
  | x :: p, h => by
    show cutL c (x :: (p ++ c :: r)) = _
    rw [cutL, if_neg (h x (by simp)), cutL_at c r p (fun y hy => h y (by simp [hy]))]
/-- Texts in cells. -/
def txtsL (l : List (List Int)) : List Value := l.map fun p => .string (strOf p)
theorem txtsL_len (l : List (List Int)) : (txtsL l).length = l.length := by simp [txtsL]
theorem extract_strOf (s : ByteArray) (i j : Nat) : s.extract i j = strOf (((bytesOf s).drop i).take (j - i)) := by
  have h : s = ⟨s.data.toList.toArray⟩ := by cases s; simp
  conv => lhs; rw [h, ByteArray.extract_mk]
  unfold strOf bytesOf
  rw [← List.map_drop, ← List.map_take, List.map_map]
  congr 1
  have e : ((fun n : Int => UInt8.ofNat n.toNat) ∘ fun b : UInt8 => (b.toNat : Int)) = id := by funext b; simp
  rw [e, List.map_id]
theorem byte_at (s : ByteArray) (k : Nat) (h : k < s.size) : ((s[k]'h).toNat : Int) = (bytesOf s).getD k 0 := by
  have h2 : k < s.data.size := h
  show ((s.data[k]'h2).toNat : Int) = _
  unfold bytesOf
  rw [List.getD, List.getElem?_map, Array.getElem?_toList, Array.getElem?_eq_getElem h2]; rfl
theorem cut_last {c : Int} {l : List Int} {done : List (List Int)} {f k : Nat} (hk : k = l.length) (h1 : cutL c l = done ++ cutL c (l.drop f)) (h2 : ∀ x ∈ (l.drop f).take (k - f), x ≠ c) : cutL c l = done ++ [(l.drop f).take (k - f)] := by
  have e : (l.drop f).take (k - f) = l.drop f := List.take_of_length_le (by simp; omega)
  rw [e] at h2
  rw [h1, cutL_free c _ h2, e]
theorem cut_next {c : Int} {l : List Int} {done : List (List Int)} {f k : Nat} (hk : k < l.length) (hf : f ≤ k) (h1 : cutL c l = done ++ cutL c (l.drop f)) (h2 : ∀ x ∈ (l.drop f).take (k - f), x ≠ c) (hc : l.getD k 0 = c) : cutL c l = (done ++ [(l.drop f).take (k - f)]) ++ cutL c (l.drop (k + 1)) := by
  have e : l.drop f = (l.drop f).take (k - f) ++ c :: l.drop (k + 1) := by
    have e1 := (List.take_append_drop (k - f) (l.drop f)).symm
    rw [List.drop_drop, show f + (k - f) = k by omega, List.drop_eq_getElem_cons hk] at e1
    rw [← hc, List.getD, List.getElem?_eq_getElem hk]
    exact e1
  rw [h1]
  conv => lhs; rw [e, cutL_at c _ _ h2]
  simp
theorem cut_more {c : Int} {l : List Int} {f k : Nat} (hk : k < l.length) (hf : f ≤ k) (h2 : ∀ x ∈ (l.drop f).take (k - f), x ≠ c) (hc : l.getD k 0 ≠ c) : ∀ x ∈ (l.drop f).take (k + 1 - f), x ≠ c := by
  intro x hx
  rw [show k + 1 - f = (k - f) + 1 by omega, List.take_add_one] at hx
  rcases List.mem_append.1 hx with hx | hx
  · exact h2 x hx
  · have e : (l.drop f)[k - f]? = some (l.getD k 0) := by
      rw [List.getElem?_drop, show f + (k - f) = k by omega, List.getElem?_eq_getElem hk]; simp [List.getD, hk]
    rw [e] at hx
    simp only [Option.toList, List.mem_singleton] at hx
    rw [hx]; exact hc
theorem bel2v {w w1 w2 : World} (h : Below w.heap.size w w1) (k : Below w1.heap.size w1 w2) : Below w.heap.size w w2 := h.trans (k.mono h.size)
theorem infoS : (Tryd.prog.info? 9).map (fun i => (i.zero, i.size, i.bytes)) = some (some (.string ⟨#[]⟩), 1, 16) := by kernel_rfl

end Go.Proofs.YtlnhkdiecfccaabDoor
