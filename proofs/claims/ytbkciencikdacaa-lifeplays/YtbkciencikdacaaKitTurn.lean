/- Which blocks turn. (No program in it.) -/
import Derived.Test.YtbkciencikdacaaKitSt
namespace Go.Proofs.Ytbkciencikdacaa
open Go.RowKit Kit
set_option linter.unusedVariables false

/-- Of the old blocks only q turned. -/
structure Turn1 (q : Nat) (w w' : World) : Prop where
  os : w'.os = w.os
  tape : w'.tape = w.tape
  output : w'.output = w.output
  size : w.heap.size ≤ w'.heap.size
  block : ∀ k, k < w.heap.size → k ≠ q → w'.heap[k]? = w.heap[k]?
theorem Turn1.refl (q : Nat) (w : World) : Turn1 q w w := ⟨rfl, rfl, rfl, Nat.le_refl _, fun _ _ _ => rfl⟩
theorem Turn1.trans {q : Nat} {w w1 w2 : World} (h : Turn1 q w w1) (k : Turn1 q w1 w2) : Turn1 q w w2 :=
  ⟨k.os.trans h.os, k.tape.trans h.tape, k.output.trans h.output, Nat.le_trans h.size k.size, fun i h1 h2 => (k.block i (Nat.lt_of_lt_of_le h1 h.size) h2).trans (h.block i h1 h2)⟩
theorem turn1_below {q : Nat} {w w' : World} (h : Below w.heap.size w w') : Turn1 q w w' := ⟨h.os, h.tape, h.output, h.size, fun k h1 _ => h.block k h1⟩
theorem turn1_set (q : Nat) (w : World) (o : Nat) (v : Value) : Turn1 q w (w.setCell ⟨q, o, none⟩ v) := ⟨rfl, rfl, rfl, by simp [World.setCell], fun k _ h2 => Below.heap_setCell _ _ _ k h2⟩
theorem Turn1.below {q B : Nat} {w0 w w' : World} (h : Turn1 q w w') (h0 : Below B w0 w) (hB : B ≤ w.heap.size) (hq : B ≤ q) : Below B w0 w' :=
  ⟨h.os.trans h0.os, h.tape.trans h0.tape, h.output.trans h0.output, Nat.le_trans h0.size h.size, fun k hk => (h.block k (by omega) (by omega)).trans (h0.block k hk)⟩
theorem blk_lt {w : World} {g : Nat} {o : Obj} (h : w.heap[g]? = some o) : g < w.heap.size := (Array.getElem?_eq_some_iff.1 h).1
theorem blk_below {w w' : World} {g : Nat} {o : Obj} (hb : Below w.heap.size w w') (h : w.heap[g]? = some o) : w'.heap[g]? = some o := (hb.block g (blk_lt h)).trans h
theorem blk_turn {w w' : World} {q g : Nat} {o : Obj} (ht : Turn1 q w w') (h : w.heap[g]? = some o) (hg : g ≠ q) : w'.heap[g]? = some o := (ht.block g (blk_lt h) hg).trans h
theorem cell_lt9 {w : World} {g j : Nat} {x : Value} (h : w.cell? ⟨g, j, none⟩ = some x) : g < w.heap.size := by
  by_cases hb : g < w.heap.size
  · exact hb
  · have : w.heap[g]? = none := Array.getElem?_eq_none (by omega)
    simp [World.cell?, this] at h
theorem blk_cell {w : World} {g j : Nat} {cs : Array Value} {t : TypeId} {x : Value} (h : w.heap[g]? = some (.cells cs t)) (hj : cs[j]? = some x) : w.cell? ⟨g, j, none⟩ = some x := by
  simp only [World.cell?, h]; exact hj
theorem blk_frozen {w : World} {g : Nat} {cs : Array Value} {t : TypeId} (h : w.heap[g]? = some (.cells cs t)) : ∀ j, w.frozen? ⟨g, j, none⟩ = false := by
  intro j
  simp [World.frozen?, h]
theorem bel_newG (w : World) (o : Obj) : Below w.heap.size w (w.alloc o) := (Below.refl _ _).alloc (Nat.le_refl _) _
theorem bel_tr {w w1 w2 : World} (h : Below w.heap.size w w1) (k : Below w1.heap.size w1 w2) : Below w.heap.size w w2 :=
  ⟨k.os.trans h.os, k.tape.trans h.tape, k.output.trans h.output, Nat.le_trans h.size k.size, fun i hi => (k.block i (Nat.lt_of_lt_of_le hi h.size)).trans (h.block i hi)⟩
/-- Behind an append onto a row of the call's own. -/
theorem row_kept {α : Type} {E : Enc α} {w wr W w' : World} {base : Nat} {e : TypeId} {v : Value} {xs : List α} (hr : RowE E wr base e v xs) (hb : Below wr.heap.size wr W) (hg : W.grownBy w' v.ownBlock) : (∀ g o, wr.heap.size ≤ g → W.heap[g]? = some o → w'.heap[g]? = some o) ∧ (Below base w wr → base ≤ wr.heap.size → Below base w w') := by
  have hl : ∀ j, v.ownBlock = some j → base ≤ j ∧ j < wr.heap.size := fun j hj => by unfold RowE at hr; exact hr.lt j hj
  refine ⟨fun g o h1 h2 => ?_, fun h3 h4 => ?_⟩
  · rw [← h2]
    refine hg.block g (blk_lt h2) fun e => ?_
    have := hl g e.symm
    omega
  · have h5 := hb.size
    exact ⟨hg.os.trans (hb.os.trans h3.os), hg.tape.trans (hb.tape.trans h3.tape), hg.output.trans (hb.output.trans h3.output), Nat.le_trans h3.size (Nat.le_trans h5 hg.size), fun k hk => by
      rw [hg.block k (by omega) (fun e => by have := hl k e.symm; omega), hb.block k (by omega), h3.block k hk]⟩
/-- A row of the call's own stays while an older block turns. -/
theorem rowE_set {α : Type} {E : Enc α} {w : World} {base q : Nat} {e : TypeId} {v : Value} {xs : List α} (h : RowE E w base e v xs) (hq : q < base) (j : Nat) (x : Value) : RowE E (w.setCell ⟨q, j, none⟩ x) base e v xs := by
  obtain ⟨h1, h2⟩ := h
  refine ⟨h1, ?_⟩
  rcases h2 with h2 | ⟨g, cap, cur, hv, hg, hh, r⟩
  · exact .inl h2
  · exact .inr ⟨g, cap, cur, hv, hg, by rw [Below.heap_setCell _ _ _ g (by show g ≠ q; omega)]; exact hh, r⟩
theorem setCell_blk {w : World} {g j : Nat} {cs : Array Value} {t : TypeId} (h : w.heap[g]? = some (.cells cs t)) (x : Value) : (w.setCell ⟨g, j, none⟩ x).heap[g]? = some (.cells (cs.setIfInBounds j x) t) := by
  simp [World.setCell, Array.getElem?_modify, h]
end Go.Proofs.Ytbkciencikdacaa
