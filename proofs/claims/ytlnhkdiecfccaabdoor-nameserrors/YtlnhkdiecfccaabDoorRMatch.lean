/- dolmenref1.Match: what one call answers. -/
import Derived.Test.YtlnhkdiecfccaabDoorRJoin
import Derived.Deep.OwnRows
import Derived.Deep.QuietTactic
import Derived.BigQuiet
namespace Go.Proofs.YtlnhkdiecfccaabDoor
open Go.RowKit Kit
set_option linter.unusedVariables false

/-- A byte of a text. -/
def cAt (s : ByteArray) (k : Nat) : Nat := (s.data.toList.getD k 0).toNat
theorem cAt_eq (s : ByteArray) (k : Nat) (h : k < s.size) : (s[k]'h).toNat = cAt s k := by
  have h2 : k < s.data.toList.length := by simpa using h
  have : s[k]'h = s.data.toList[k]'h2 := by simp [ByteArray.getElem_eq_getElem_data]
  rw [this]
  unfold cAt
  rw [List.getD_eq_getElem?_getD, List.getElem?_eq_getElem h2]
  rfl
/-- Do the first i signs of the pattern stand for the first k bytes of the name? -/
def hits (p n : ByteArray) : Nat → Nat → Bool
  | 0, 0 => true
  | 0, _ + 1 => false
  | i + 1, 0 => decide (cAt p i = 42) && hits p n i 0
  | i + 1, k + 1 => if cAt p i = 42 then hits p n i (k + 1) || hits p n (i + 1) k else (decide (cAt p i = 63) || decide (cAt p i = cAt n k)) && hits p n i k
  termination_by i k => (i, k)
def matchB (p n : ByteArray) : Bool := decide (p.size ≤ 40) && decide (n.size ≤ 40) && hits p n p.size n.size
theorem hits_s0 (p n : ByteArray) (i : Nat) (h : cAt p i = 42) : hits p n (i + 1) 0 = hits p n i 0 := by rw [hits]; simp [h]
theorem hits_s1 (p n : ByteArray) (i k : Nat) (h : cAt p i = 42) : hits p n (i + 1) (k + 1) = (hits p n i (k + 1) || hits p n (i + 1) k) := by rw [hits, if_pos h]
theorem hits_o0 (p n : ByteArray) (i : Nat) (h : ¬ cAt p i = 42) : hits p n (i + 1) 0 = false := by rw [hits]; simp [h]
theorem hits_o1 (p n : ByteArray) (i k : Nat) (h : ¬ cAt p i = 42) (h2 : cAt p i = 63 ∨ cAt p i = cAt n k) : hits p n (i + 1) (k + 1) = hits p n i k := by
  rw [hits, if_neg h]
  rcases h2 with h2 | h2 <;> simp [h2]
theorem hits_o2 (p n : ByteArray) (i k : Nat) (h : ¬ cAt p i = 42) (h2 : ¬ cAt p i = 63) (h3 : ¬ cAt p i = cAt n k) : hits p n (i + 1) (k + 1) = false := by
  rw [hits, if_neg h]; simp [h2, h3]

/-- A row of Booleans. -/
def MRow (w : World) (b N : Nat) (f : Nat → Bool) : Prop := w.rowIs b 4 (N + 1) (fun k => .bool (f k))
/-- What the round over the name keeps. -/
def MIn (p n : ByteArray) (w w2 : World) (bi bn i k : Nat) : Prop :=
  bi ≠ bn ∧ w.heap.size ≤ bn ∧ MRow w2 bi n.size (hits p n i) ∧ MRow w2 bn n.size (fun j => decide (j < k) && hits p n (i + 1) j) ∧ Below w.heap.size w w2
def MOut (p n : ByteArray) (w w1 : World) (bi i : Nat) : Prop := w.heap.size ≤ bi ∧ MRow w1 bi n.size (hits p n i) ∧ Below w.heap.size w w1
theorem MIn.stay {p n : ByteArray} {w w2 : World} {bi bn i k : Nat} (h : MIn p n w w2 bi bn i k) (hf : hits p n (i + 1) k = false) : MIn p n w w2 bi bn i (k + 1) := by
  obtain ⟨h1, h2, h3, h4, h5⟩ := h
  refine ⟨h1, h2, h3, World.rowIs.congr h4 fun j hj => ?_, h5⟩
  by_cases hjk : j = k
  · subst hjk; simp [hf]
  · have : (j < k) = (j < k + 1) := by rw [eq_iff_iff]; omega
    simp [this]
theorem MIn.put {p n : ByteArray} {w w2 : World} {bi bn i k : Nat} (h : MIn p n w w2 bi bn i k) {b : Bool} (hf : hits p n (i + 1) k = b) : MIn p n w (w2.setCell ⟨bn, k, none⟩ (.bool b)) bi bn i (k + 1) := by
  obtain ⟨h1, h2, h3, h4, h5⟩ := h
  refine ⟨h1, h2, World.rowIs.setOther h3 (by exact h1) _, World.rowIs.congr (World.rowIs.set h4 k _) fun j hj => ?_, h5.setCell (by exact h2) _⟩
  by_cases hjk : j = k
  · subst hjk; simp [hf]
  · have : (j < k) = (j < k + 1) := by rw [eq_iff_iff]; omega
    simp [this, hjk]
theorem MIn.drewN {p n : ByteArray} {w w2 : World} {bi bn i k : Nat} (h : MIn p n w w2 bi bn i k) (m : Nat) : MIn p n w (w2.drewN m) bi bn i k :=
  ⟨h.1, h.2.1, h.2.2.1, h.2.2.2.1, ⟨h.2.2.2.2.os, h.2.2.2.2.tape, h.2.2.2.2.output, h.2.2.2.2.size, h.2.2.2.2.block⟩⟩
theorem MIn.start {p n : ByteArray} {w w1 : World} {bi i : Nat} (h : MOut p n w w1 bi i) : MIn p n w (w1.alloc (.cells (madeCells #[.bool false] (n.size + 1)) 4)) bi w1.heap.size i 0 := by
  obtain ⟨h1, h2, h3⟩ := h
  have hl := World.rowIs.lt h2
  refine ⟨by omega, by have := h3.size; omega, World.rowIs.alloc h2 _, World.rowIs.congr (World.rowIs_made w1 (.bool false) (n.size + 1) 4) fun j hj => by simp, h3.alloc h3.size _⟩
theorem MIn.out {p n : ByteArray} {w w2 : World} {bi bn i : Nat} (h : MIn p n w w2 bi bn i (n.size + 1)) : MOut p n w w2 bn (i + 1) := by
  obtain ⟨h1, h2, h3, h4, h5⟩ := h
  exact ⟨h2, World.rowIs.congr h4 fun j hj => by simp [hj], h5⟩
theorem MOut.start (p n : ByteArray) (w : World) : MOut p n w (w.alloc (.cells ((madeCells #[.bool false] (n.size + 1)).setIfInBounds 0 (.bool true)) 4)) w.heap.size 0 := by
  refine ⟨Nat.le_refl _, ?_, (Below.refl _ _).alloc (Nat.le_refl _) _⟩
  have h := World.rowIs_alloc w ((madeCells #[.bool false] (n.size + 1)).setIfInBounds 0 (.bool true)) 4 (fun k => .bool (hits p n 0 k)) (fun i hi => by
    rw [Array.size_setIfInBounds, size_madeCells] at hi
    cases i with
    | zero => simp [hits, madeCells]
    | succ j => simp [hits, madeCells, hi, Nat.mod_one])
  rw [Array.size_setIfInBounds, size_madeCells] at h
  exact h
theorem infoB : (Tryd.prog.info? 4).map (fun i => (i.zero, i.size, i.bytes)) = some (some (.bool false), 1, 1) := by kernel_rfl

end Go.Proofs.YtlnhkdiecfccaabDoor
