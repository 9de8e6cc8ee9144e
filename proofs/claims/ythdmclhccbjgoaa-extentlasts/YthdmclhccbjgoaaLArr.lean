/- A table of 64 numbers of the law's own. -/
import Derived.Test.YthdmclhccbjgoaaMLast
import Derived.Test.YthdmclhccbjgoaaEReads
namespace Go.Proofs.Ythdmclhccbjgoaa
open Go.RowKit Kit
set_option linter.unusedVariables false

def Arr (w : World) (q : Nat) (f : Int → Int) : Prop := ∃ cs : Array Value, w.heap[q]? = some (.cells cs 51) ∧ cs.size = 64 ∧ ∀ k : Nat, k < 64 → cs[k]? = some (.int .i64 (f (k : Int)))
theorem arr_cell {w : World} {q : Nat} {f : Int → Int} (h : Arr w q f) (k : Nat) (hk : k < 64) : w.cell? ⟨q, k, none⟩ = some (.int .i64 (f (k : Int))) := by
  obtain ⟨cs, h1, h2, h3⟩ := h
  exact blk_cell h1 (h3 k hk)
theorem arr_frozen {w : World} {q : Nat} {f : Int → Int} (h : Arr w q f) (k : Nat) : w.frozen? ⟨q, k, none⟩ = false := by
  obtain ⟨cs, h1, h2, h3⟩ := h
  exact blk_frozen h1 k
theorem arr_lt {w : World} {q : Nat} {f : Int → Int} (h : Arr w q f) : q < w.heap.size := by
  obtain ⟨cs, h1, h2, h3⟩ := h
  exact blk_lt h1
theorem arr_below {w w' : World} {q : Nat} {f : Int → Int} (h : Arr w q f) (hb : Below w.heap.size w w') : Arr w' q f := by
  obtain ⟨cs, h1, h2, h3⟩ := h
  exact ⟨cs, blk_below hb h1, h2, h3⟩
theorem arr_turn {w w' : World} {p q : Nat} {v v' : Value} {f : Int → Int} (h : Arr w q f) (ht : Turn9 p v v' w w') (hp : q ≠ p) (hv : v.ownBlock ≠ some q) : Arr w' q f := by
  obtain ⟨cs, h1, h2, h3⟩ := h
  exact ⟨cs, by rw [ht.block q (blk_lt h1) hp hv]; exact h1, h2, h3⟩
theorem arr_ne {w : World} {q r : Nat} {f : Int → Int} (h : Arr w q f) (hr : q ≠ r) (j : Nat) (x : Value) : Arr (w.setCell ⟨r, j, none⟩ x) q f := by
  obtain ⟨cs, h1, h2, h3⟩ := h
  exact ⟨cs, by rw [Below.heap_setCell _ _ _ q hr]; exact h1, h2, h3⟩
theorem arr_set {w : World} {q : Nat} {f : Int → Int} (h : Arr w q f) (k : Nat) (hk : k < 64) (x : Int) : Arr (w.setCell ⟨q, k, none⟩ (.int .i64 x)) q (overT f k ((k : Int) + 1) (fun _ => x)) := by
  obtain ⟨cs, h1, h2, h3⟩ := h
  refine ⟨_, setCell_blk h1 _, by simp [h2], fun j hj => ?_⟩
  rw [Array.getElem?_setIfInBounds]
  unfold overT
  by_cases hjk : k = j
  · subst hjk
    rw [if_pos rfl, if_pos (by omega), if_pos (by omega)]
  · rw [if_neg hjk, if_neg (by omega)]
    exact h3 j hj
theorem emap_set {w : World} {p q B : Nat} {v : Value} {ps : List Pc} (h : EMap w p B v ps) (hq : q < B) (hp : p ≠ q) (j : Nat) (x : Value) : EMap (w.setCell ⟨q, j, none⟩ x) p B v ps :=
  ⟨by rw [Below.heap_setCell _ _ _ p hp]; exact h.cell, rowE_set h.row hq j x, h.off, by have : (w.setCell ⟨q, j, none⟩ x).heap.size = w.heap.size := by simp [World.setCell]
                                                                                         rw [this]; exact h.low⟩
/-- The law's state: two tables, a map. -/
structure Mid (w0 w : World) (v : Value) (ps : List Pc) (f g : Int → Int) : Prop where
  em : EMap w (w0.heap.size + 1 + 1) (w0.heap.size + 1 + 1 + 1) v ps
  good : Good9 ps
  af : Arr w w0.heap.size f
  ag : Arr w (w0.heap.size + 1) g
  bel : Below w0.heap.size w0 w
theorem Mid.own {w0 w : World} {v : Value} {ps : List Pc} {f g : Int → Int} (h : Mid w0 w v ps f g) {q : Nat} (hq : q < w0.heap.size + 1 + 1 + 1) : v.ownBlock ≠ some q := fun e => by
  have := h.em.row.block q e
  omega
theorem Mid.below {w0 w w' : World} {v : Value} {ps : List Pc} {f g : Int → Int} (h : Mid w0 w v ps f g) (hb : Below w.heap.size w w') : Mid w0 w' v ps f g :=
  ⟨h.em.below hb, h.good, arr_below h.af hb, arr_below h.ag hb, bel_tr h.bel hb⟩
theorem Mid.turn {w0 w w' : World} {v v' : Value} {ps qs : List Pc} {f g : Int → Int} (h : Mid w0 w v ps f g) (hm : EMap w' (w0.heap.size + 1 + 1) (w0.heap.size + 1 + 1 + 1) v' qs) (hg : Good9 qs) (ht : Turn9 (w0.heap.size + 1 + 1) v v' w w') : Mid w0 w' v' qs f g :=
  ⟨hm, hg, arr_turn h.af ht (by omega) (h.own (by omega)), arr_turn h.ag ht (by omega) (h.own (by omega)),
   ⟨ht.os.trans h.bel.os, ht.tape.trans h.bel.tape, ht.output.trans h.bel.output, Nat.le_trans h.bel.size ht.size, fun k hk => (ht.block k (Nat.lt_of_lt_of_le hk h.bel.size) (by omega) (h.own (by omega))).trans (h.bel.block k hk)⟩⟩
theorem Mid.setf {w0 w : World} {v : Value} {ps : List Pc} {f g : Int → Int} (h : Mid w0 w v ps f g) (k : Nat) (hk : k < 64) (x : Int) : Mid w0 (w.setCell ⟨w0.heap.size, k, none⟩ (.int .i64 x)) v ps (overT f k ((k : Int) + 1) (fun _ => x)) g :=
  ⟨emap_set h.em (by omega) (by omega) _ _, h.good, arr_set h.af k hk x, arr_ne h.ag (by omega) _ _, set_below h.bel (Nat.le_refl _)⟩
theorem Mid.setg {w0 w : World} {v : Value} {ps : List Pc} {f g : Int → Int} (h : Mid w0 w v ps f g) (k : Nat) (hk : k < 64) (x : Int) : Mid w0 (w.setCell ⟨w0.heap.size + 1, k, none⟩ (.int .i64 x)) v ps f (overT g k ((k : Int) + 1) (fun _ => x)) :=
  ⟨emap_set h.em (by omega) (by omega) _ _, h.good, arr_ne h.af (by omega) _ _, arr_set h.ag k hk x, set_below h.bel (Nat.le_succ _)⟩
abbrev z64 : Array Value := #[.int .i64 0, .int .i64 0, .int .i64 0, .int .i64 0, .int .i64 0, .int .i64 0, .int .i64 0, .int .i64 0, .int .i64 0, .int .i64 0, .int .i64 0, .int .i64 0, .int .i64 0, .int .i64 0, .int .i64 0, .int .i64 0, .int .i64 0, .int .i64 0, .int .i64 0, .int .i64 0, .int .i64 0, .int .i64 0, .int .i64 0, .int .i64 0, .int .i64 0, .int .i64 0, .int .i64 0, .int .i64 0, .int .i64 0, .int .i64 0, .int .i64 0, .int .i64 0, .int .i64 0, .int .i64 0, .int .i64 0, .int .i64 0, .int .i64 0, .int .i64 0, .int .i64 0, .int .i64 0, .int .i64 0, .int .i64 0, .int .i64 0, .int .i64 0, .int .i64 0, .int .i64 0, .int .i64 0, .int .i64 0, .int .i64 0, .int .i64 0, .int .i64 0, .int .i64 0, .int .i64 0, .int .i64 0, .int .i64 0, .int .i64 0, .int .i64 0, .int .i64 0, .int .i64 0, .int .i64 0, .int .i64 0, .int .i64 0, .int .i64 0, .int .i64 0]
theorem z64_at : ∀ k : Nat, k < 64 → z64[k]? = some (.int .i64 0) := by
  intro k hk
  have h : z64 = Array.replicate 64 (.int .i64 0) := rfl
  rw [h, Array.getElem?_replicate, if_pos hk]
theorem mid_new (w : World) : Mid w (((w.alloc (.cells z64 51)).alloc (.cells z64 51)).alloc (.cells #[.slice none 0 0] 59)) (.slice none 0 0) [] (fun _ => 0) (fun _ => 0) := by
  have h1 : (w.alloc (.cells z64 51)).heap[w.heap.size]? = some (.cells z64 51) := (MapKept.heap_alloc w _).1
  have h2 : ((w.alloc (.cells z64 51)).alloc (.cells z64 51)).heap[w.heap.size + 1]? = some (.cells z64 51) := by
    have := (MapKept.heap_alloc (w.alloc (.cells z64 51)) (.cells z64 51)).1
    have hs : (w.alloc (.cells z64 51)).heap.size = w.heap.size + 1 := by simp
    rw [hs] at this
    exact this
  have b2 := bel_newG (w.alloc (.cells z64 51)) (.cells z64 51)
  have b3 := bel_newG ((w.alloc (.cells z64 51)).alloc (.cells z64 51)) (.cells #[.slice none 0 0] 59)
  have hs2 : ((w.alloc (.cells z64 51)).alloc (.cells z64 51)).heap.size = w.heap.size + 1 + 1 := by simp
  have hm := enew_map ((w.alloc (.cells z64 51)).alloc (.cells z64 51))
  rw [hs2] at hm
  exact ⟨hm, good9_nil, ⟨z64, blk_below b3 (blk_below b2 h1), rfl, z64_at⟩, ⟨z64, blk_below b3 h2, rfl, z64_at⟩, bel_tr (bel_newG _ _) (bel_tr b2 b3)⟩
end Go.Proofs.Ythdmclhccbjgoaa
