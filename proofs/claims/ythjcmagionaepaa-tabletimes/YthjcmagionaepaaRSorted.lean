/- dolmenref1.Sorted: what one call answers. -/
import Derived.Test.YthjcmagionaepaaProg
import Derived.Test.YthjcmagionaepaaGKit
import Derived.Deep.RegionHeld3
import Derived.Deep.QuietTactic
import Derived.BigQuiet
import Derived.Laws.OwnMore
import Derived.Laws.Cover1
namespace Go.Proofs.Ythjcmagionaepaa
open Go.RowKit Kit
set_option linter.unusedVariables false

theorem infoS : (Try.prog.info? 9).map (fun i => (i.zero, i.size, i.bytes)) = some (some (.string ⟨#[]⟩), 1, 16) := by kernel_rfl
/-- Where a text goes in. -/
def posB (out : List ByteArray) (x : ByteArray) : Nat → Nat
  | 0 => 0
  | k + 1 => if (!Op.bytesLess (out.getD k ⟨#[]⟩).toList x.toList && !((out.getD k ⟨#[]⟩).toList == x.toList)) = true then posB out x k else k + 1
def insB (out : List ByteArray) (x : ByteArray) : List ByteArray :=
  if 0 < posB out x out.length ∧ ((out.getD (posB out x out.length - 1) ⟨#[]⟩).toList == x.toList) = true then out else out.take (posB out x out.length) ++ x :: out.drop (posB out x out.length)
def sortedB (l : List ByteArray) : List ByteArray := l.foldl insB []
theorem insB_len (out : List ByteArray) (x : ByteArray) : (insB out x).length ≤ out.length + 1 := by
  unfold insB
  split
  · omega
  · simp; omega
theorem sortedB_step (l : List ByteArray) (i : Nat) (h : i < l.length) : sortedB (l.take (i + 1)) = insB (sortedB (l.take i)) (l.getD i ⟨#[]⟩) := by
  unfold sortedB
  rw [List.take_add_one, List.foldl_append, List.getElem?_eq_getElem h]
  simp [List.getD, h]
/-- While room is made: the place k is free. -/
def SIn (w wy : World) (g cp : Nat) (out : List ByteArray) (k : Nat) : Prop :=
  ∃ y, RowV wy w.heap.size 9 (.slice (some ⟨g, 0, none⟩) (out.length + 1) cp) (strs (out.take k ++ y :: out.drop k)) ∧ Below w.heap.size w wy
theorem gap_len (out : List ByteArray) (k : Nat) (y : ByteArray) (hk : k ≤ out.length) : (strs (out.take k ++ y :: out.drop k)).length = out.length + 1 := by
  rw [strs_len]; simp; omega
theorem SIn.bel {w wy : World} {g cp k : Nat} {out : List ByteArray} (h : SIn w wy g cp out k) : Below w.heap.size w wy := by
  obtain ⟨_, _, h⟩ := h; exact h
theorem SIn.cellB {w wy : World} {g cp k : Nat} {out : List ByteArray} (h : SIn w wy g cp out k) {j : Nat} (hj : j < k) (hk : k ≤ out.length) : wy.cell? ⟨g, j, none⟩ = some (.string (out.getD j ⟨#[]⟩)) := by
  obtain ⟨y, h1, _⟩ := h
  refine rowV_at h1 (gap_len out k y hk) ?_
  have h2 : j < out.length := by omega
  unfold strs
  rw [List.getElem?_map, List.getElem?_append_left (by simp; omega), List.getElem?_take, if_pos hj, List.getElem?_eq_getElem h2]
  simp [List.getD, h2]
theorem SIn.cellA {w wy : World} {g cp k : Nat} {out : List ByteArray} (h : SIn w wy g cp out k) (hk : k ≤ out.length) : ∃ y, wy.cell? ⟨g, k, none⟩ = some (.string y) := by
  obtain ⟨y, h1, _⟩ := h
  refine ⟨y, rowV_at h1 (gap_len out k y hk) ?_⟩
  have h2 : (out.take k).length = k := by simp; omega
  unfold strs
  rw [List.getElem?_map, List.getElem?_append_right (by omega), h2]
  simp
theorem SIn.frozenA {w wy : World} {g cp k : Nat} {out : List ByteArray} (h : SIn w wy g cp out k) (hk : k ≤ out.length) (j : Nat) : wy.frozen? ⟨g, j, none⟩ = false := by
  obtain ⟨y, h1, _⟩ := h
  exact rowV_frozen h1 (gap_len out k y hk) j
theorem gap_set (out : List ByteArray) (k : Nat) (y z : ByteArray) (hk : k ≤ out.length) : (strs (out.take k ++ y :: out.drop k)).set k (.string z) = strs (out.take k ++ z :: out.drop k) := by
  have h2 : (out.take k).length = k := by simp; omega
  unfold strs
  rw [← List.map_set, List.set_append_right _ _ (by omega), h2]
  simp
theorem SIn.move {w wy : World} {g cp j : Nat} {out : List ByteArray} (h : SIn w wy g cp out (j + 1)) (hg : w.heap.size ≤ g) (hj : j + 1 ≤ out.length) : SIn w (wy.setCell ⟨g, j + 1, none⟩ (.string (out.getD j ⟨#[]⟩))) g cp out j := by
  obtain ⟨y, h1, h2⟩ := h
  refine ⟨out.getD j ⟨#[]⟩, ?_, h2.setCell (by exact hg) _⟩
  have h3 := rowV_stored h1 (gap_len out _ y hj) (j + 1) (.string (out.getD j ⟨#[]⟩))
  rw [gap_set out _ y _ hj] at h3
  have h4 : j < out.length := by omega
  have e : out.take (j + 1) ++ out.getD j ⟨#[]⟩ :: out.drop (j + 1) = out.take j ++ out.getD j ⟨#[]⟩ :: out.drop j := by
    have e1 : out.getD j ⟨#[]⟩ = out[j] := by simp [List.getD, h4]
    rw [e1, List.take_add_one, List.getElem?_eq_getElem h4, List.drop_eq_getElem_cons h4]
    simp only [Option.toList_some, List.append_assoc, List.singleton_append]
  rw [e] at h3
  exact h3
theorem SIn.last {w wy : World} {g cp a : Nat} {out : List ByteArray} (h : SIn w wy g cp out a) (hg : w.heap.size ≤ g) (ha : a ≤ out.length) (x : ByteArray) (hi : insB out x = out.take a ++ x :: out.drop a) :
    RowV (wy.setCell ⟨g, a, none⟩ (.string x)) w.heap.size 9 (.slice (some ⟨g, 0, none⟩) (out.length + 1) cp) (strs (insB out x)) ∧ Below w.heap.size w (wy.setCell ⟨g, a, none⟩ (.string x)) := by
  obtain ⟨y, h1, h2⟩ := h
  refine ⟨?_, h2.setCell (by exact hg) _⟩
  have h3 := rowV_stored h1 (gap_len out _ y ha) a (.string x)
  rw [gap_set out _ y _ ha] at h3
  rw [hi]; exact h3
def SOut (w wr : World) (v : Value) (l : List ByteArray) (i : Nat) : Prop := RowV wr w.heap.size 9 v (strs (sortedB (l.take i))) ∧ (sortedB (l.take i)).length ≤ i ∧ Below w.heap.size w wr
theorem next_rel {w w' : World} {v : Value} {l out : List ByteArray} {x : ByteArray} {i : Nat} (hs : sortedB (l.take i) = out) (hl : out.length ≤ i) (hlt : i < l.length) (hx : l.getD i ⟨#[]⟩ = x) (hr : RowV w' w.heap.size 9 v (strs (insB out x))) (hb : Below w.heap.size w w') : SOut w w' v l (i + 1) := by
  unfold SOut
  rw [sortedB_step l i hlt, hs, hx]
  exact ⟨hr, Nat.le_trans (insB_len _ _) (by omega), hb⟩
theorem ins_here {out : List ByteArray} {x : ByteArray} {a : Nat} (hp : posB out x out.length = a) (h : a = 0 ∨ ((out.getD (a - 1) ⟨#[]⟩).toList == x.toList) = false) : insB out x = out.take a ++ x :: out.drop a := by
  unfold insB
  rw [hp, if_neg]
  rintro ⟨h1, h2⟩
  rcases h with h | h
  · omega
  · rw [h] at h2; cases h2
theorem ins_not {out : List ByteArray} {x : ByteArray} {m : Nat} (hp : posB out x out.length = m + 1) (h : ((out.getD m ⟨#[]⟩).toList == x.toList) = true) : insB out x = out := by
  unfold insB
  rw [hp, if_pos ⟨by omega, h⟩]

end Go.Proofs.Ythjcmagionaepaa
