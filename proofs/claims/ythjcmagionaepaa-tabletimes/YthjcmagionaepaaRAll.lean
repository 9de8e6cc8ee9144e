/- The document's table: All. -/
import Derived.Test.YthjcmagionaepaaRTabN
import Derived.Deep.CutBlock
namespace Go.Proofs.Ythjcmagionaepaa
open Go.RowKit Kit
set_option linter.unusedVariables false

/-- One row stands behind another one. -/
def gtB (a x : Rw) : Bool := (!Op.bytesLess a.name.toList x.name.toList && !(a.name.toList == x.name.toList)) || (a.name.toList == x.name.toList && decide (x.born < a.born))
def zR : Rw := ⟨⟨#[]⟩, 0, 0, 0⟩
def posW (out : List Rw) (x : Rw) : Nat → Nat
  | 0 => 0
  | k + 1 => if gtB (out.getD k zR) x = true then posW out x k else k + 1
def insW (out : List Rw) (x : Rw) : List Rw := out.take (posW out x out.length) ++ x :: out.drop (posW out x out.length)
def allW (l : List Rw) : List Rw := l.foldl insW []
theorem posW_le (out : List Rw) (x : Rw) : ∀ k, posW out x k ≤ k
  | 0 => Nat.le_refl _
  | k + 1 => by
    rw [posW]
    split
    · exact Nat.le_succ_of_le (posW_le out x k)
    · exact Nat.le_refl _
theorem insW_len (out : List Rw) (x : Rw) : (insW out x).length = out.length + 1 := by
  have := posW_le out x out.length
  unfold insW
  simp
  omega
theorem allW_step (l : List Rw) (i : Nat) (h : i < l.length) : allW (l.take (i + 1)) = insW (allW (l.take i)) l[i] := by
  unfold allW
  rw [List.take_succ_eq_append_getElem h, List.foldl_append]
  rfl
theorem foldW_len : ∀ (l a : List Rw), (l.foldl insW a).length = a.length + l.length
  | [], a => by simp
  | x :: l, a => by
    rw [List.foldl_cons, foldW_len l, insW_len, List.length_cons]
    omega
theorem allW_len (l : List Rw) : (allW l).length = l.length := by
  unfold allW
  rw [foldW_len]
  simp
theorem rw_row {w : World} {B g n cap : Nat} {e : TypeId} {xs : List Rw} (h : RowE rwE w B e (.slice (some ⟨g, 0, none⟩) n cap) xs) (i : Nat) (hi : i < xs.length) :
    g < w.heap.size ∧ (∀ j, w.frozen? ⟨g, j, none⟩ = false) ∧ w.cell? ⟨g, i * 4, none⟩ = some (.string xs[i].name) ∧ w.cell? ⟨g, i * 4 + 1, none⟩ = some (.int .i64 xs[i].ino) ∧ w.cell? ⟨g, i * 4 + 2, none⟩ = some (.int .i64 xs[i].born) ∧ w.cell? ⟨g, i * 4 + 3, none⟩ = some (.int .i64 xs[i].died) := by
  obtain ⟨g', cap', e1, hB, hl, hf, hc⟩ := rowE_form h (by omega)
  injection e1 with e2 e3 e4
  injection e2 with e2
  injection e2 with e2
  subst e2
  exact ⟨hl, hf, hc i hi 0 _ rfl, hc i hi 1 _ rfl, hc i hi 2 _ rfl, hc i hi 3 _ rfl⟩
/-- A whole row stored. -/
def set4 (w : World) (g o : Nat) (r : Rw) : World := (((w.setCell ⟨g, o, none⟩ (.string r.name)).setCell ⟨g, o + 1, none⟩ (.int .i64 r.ino)).setCell ⟨g, o + 2, none⟩ (.int .i64 r.born)).setCell ⟨g, o + 3, none⟩ (.int .i64 r.died)
theorem set4_heap (w : World) (g o : Nat) (r : Rw) {k : Nat} (hk : k ≠ g) : (set4 w g o r).heap[k]? = w.heap[k]? := by
  have s : ∀ (W : World) (j : Nat) (u : Value), (W.setCell ⟨g, j, none⟩ u).heap[k]? = W.heap[k]? := fun W j u => Below.heap_setCell _ _ _ k (fun e => hk e)
  unfold set4
  rw [s, s, s, s]
theorem set4_below {B : Nat} {w0 w : World} (h : Below B w0 w) {g : Nat} (hg : B ≤ g) (o : Nat) (r : Rw) : Below B w0 (set4 w g o r) :=
  (((h.setCell hg _).setCell hg _).setCell hg _).setCell hg _
theorem rowE_set4 {w : World} {B g n cap : Nat} {e : TypeId} {xs : List Rw} (h : RowE rwE w B e (.slice (some ⟨g, 0, none⟩) n cap) xs) (i : Nat) (hi : i < xs.length) (r : Rw) : RowE rwE (set4 w g (i * 4) r) B e (.slice (some ⟨g, 0, none⟩) n cap) (xs.set i r) := by
  have h1 := rowE_put h i hi 0 (by decide) (.string r.name) ⟨r.name, xs[i].ino, xs[i].born, xs[i].died⟩ rfl
  have h2 := rowE_put h1 i (by rw [List.length_set]; exact hi) 1 (by decide) (.int .i64 r.ino) ⟨r.name, r.ino, xs[i].born, xs[i].died⟩ (by rw [List.getElem_set_self]; rfl)
  rw [List.set_set] at h2
  have h3 := rowE_put h2 i (by rw [List.length_set]; exact hi) 2 (by decide) (.int .i64 r.born) ⟨r.name, r.ino, r.born, xs[i].died⟩ (by rw [List.getElem_set_self]; rfl)
  rw [List.set_set] at h3
  have h4 := rowE_put h3 i (by rw [List.length_set]; exact hi) 3 (by decide) (.int .i64 r.died) r (by rw [List.getElem_set_self]; rfl)
  rw [List.set_set] at h4
  exact h4
theorem gapW_len (out : List Rw) (k : Nat) (y : Rw) (hk : k ≤ out.length) : (out.take k ++ y :: out.drop k).length = out.length + 1 := by simp; omega
theorem gapW_set (out : List Rw) (k : Nat) (y z : Rw) (hk : k ≤ out.length) : (out.take k ++ y :: out.drop k).set k z = out.take k ++ z :: out.drop k := by
  have h2 : (out.take k).length = k := by simp; omega
  rw [List.set_append_right _ _ (by omega), h2]
  simp
end Go.Proofs.Ythjcmagionaepaa
