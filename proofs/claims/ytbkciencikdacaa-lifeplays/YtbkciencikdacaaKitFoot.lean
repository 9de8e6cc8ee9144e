/- Which blocks may turn, told as a set. (No program in it.) -/
import Derived.Test.YtbkciencikdacaaKitStE
namespace Go.Proofs.Ytbkciencikdacaa
open Go.RowKit Kit
set_option linter.unusedVariables false

/-- From w to w' only the old blocks of F turned; what F has become lies in F or in new blocks. -/
structure TurnF (F F' : Nat → Prop) (w w' : World) : Prop where
  os : w'.os = w.os
  tape : w'.tape = w.tape
  output : w'.output = w.output
  size : w.heap.size ≤ w'.heap.size
  block : ∀ k, k < w.heap.size → ¬ F k → w'.heap[k]? = w.heap[k]?
  fresh : ∀ k, F' k → F k ∨ w.heap.size ≤ k
theorem turnF_below {F : Nat → Prop} {w w' : World} (h : Below w.heap.size w w') : TurnF F F w w' := ⟨h.os, h.tape, h.output, h.size, fun k hk _ => h.block k hk, fun k hk => .inl hk⟩
theorem TurnF.trans {F F1 F2 : Nat → Prop} {w w1 w2 : World} (h : TurnF F F1 w w1) (k : TurnF F1 F2 w1 w2) : TurnF F F2 w w2 :=
  ⟨k.os.trans h.os, k.tape.trans h.tape, k.output.trans h.output, Nat.le_trans h.size k.size,
   fun i hi h1 => (k.block i (Nat.lt_of_lt_of_le hi h.size) (fun e => (h.fresh i e).elim h1 (by omega))).trans (h.block i hi h1),
   fun i hi => (k.fresh i hi).elim (fun e => h.fresh i e) (fun e => .inr (Nat.le_trans h.size e))⟩
theorem TurnF.below {F F' : Nat → Prop} {B : Nat} {w0 w w' : World} (h : TurnF F F' w w') (h0 : Below B w0 w) (hB : B ≤ w.heap.size) (hF : ∀ k, F k → B ≤ k) : Below B w0 w' :=
  ⟨h.os.trans h0.os, h.tape.trans h0.tape, h.output.trans h0.output, Nat.le_trans h0.size h.size, fun k hk => (h.block k (by omega) (fun e => by have := hF k e; omega)).trans (h0.block k hk)⟩
theorem TurnF.kept {F F' : Nat → Prop} {w w' : World} {k : Nat} {o : Obj} (h : TurnF F F' w w') (hk : w.heap[k]? = some o) (hF : ¬ F k) : w'.heap[k]? = some o := (h.block k (blk_lt hk) hF).trans hk
theorem TurnF.wider {F F' G : Nat → Prop} {w w' : World} (h : TurnF F F' w w') : TurnF (fun k => F k ∨ G k) (fun k => F' k ∨ G k) w w' :=
  ⟨h.os, h.tape, h.output, h.size, fun k hk hF => h.block k hk (fun e => hF (.inl e)), fun k hk => hk.elim (fun e => (h.fresh k e).imp .inl id) (fun e => .inl (.inr e))⟩
theorem TurnF.widerR {F F' G : Nat → Prop} {w w' : World} (h : TurnF F F' w w') : TurnF (fun k => G k ∨ F k) (fun k => G k ∨ F' k) w w' :=
  ⟨h.os, h.tape, h.output, h.size, fun k hk hF => h.block k hk (fun e => hF (.inr e)), fun k hk => hk.elim (fun e => .inl (.inl e)) (fun e => (h.fresh k e).imp .inr id)⟩
/-- The block of a row of values, of structs. -/
theorem rowV_obj {w : World} {B k : Nat} {e : TypeId} {v : Value} {xs : List Value} (h : RowV w B e v xs) (hk : v.ownBlock = some k) : ∃ cur, w.heap[k]? = some (.cells cur e) := by
  obtain ⟨_, h2⟩ := h
  rcases h2 with ⟨rfl, _⟩ | ⟨g, cap, cur, rfl, _, hh, _⟩
  · simp [Value.ownBlock] at hk
  · have hk : some g = some k := hk
    injection hk with hk
    subst hk
    exact ⟨_, hh⟩
theorem rowE_obj {α : Type} {E : Enc α} {w : World} {B k : Nat} {e : TypeId} {v : Value} {xs : List α} (h : RowE E w B e v xs) (hk : v.ownBlock = some k) : ∃ cur, w.heap[k]? = some (.cells cur e) := by
  obtain ⟨_, h2⟩ := h
  rcases h2 with ⟨rfl, _⟩ | ⟨g, cap, cur, rfl, _, hh, _⟩
  · simp [Value.ownBlock] at hk
  · have hk : some g = some k := hk
    injection hk with hk
    subst hk
    exact ⟨_, hh⟩
theorem rowV_ge {w : World} {B k : Nat} {e : TypeId} {v : Value} {xs : List Value} (h : RowV w B e v xs) (hk : v.ownBlock = some k) : B ≤ k := by
  obtain ⟨_, h2⟩ := h
  rcases h2 with ⟨rfl, _⟩ | ⟨g, cap, cur, rfl, hg, hh, _⟩
  · simp [Value.ownBlock] at hk
  · have hk : some g = some k := hk
    injection hk with hk
    omega
/-- A row stays where its block does. -/
theorem rowV_stay {w w' : World} {B : Nat} {e : TypeId} {v : Value} {xs : List Value} (h : RowV w B e v xs) (hb : ∀ k, v.ownBlock = some k → w'.heap[k]? = w.heap[k]?) : RowV w' B e v xs := by
  obtain ⟨h1, h2⟩ := h
  refine ⟨h1, ?_⟩
  rcases h2 with h2 | ⟨g, cap, cur, rfl, hg, hh, r⟩
  · exact .inl h2
  · exact .inr ⟨g, cap, cur, rfl, hg, (hb g rfl).trans hh, r⟩
theorem rowE_stay {α : Type} {E : Enc α} {w w' : World} {B : Nat} {e : TypeId} {v : Value} {xs : List α} (h : RowE E w B e v xs) (hb : ∀ k, v.ownBlock = some k → w'.heap[k]? = w.heap[k]?) : RowE E w' B e v xs := by
  obtain ⟨h1, h2⟩ := h
  refine ⟨h1, ?_⟩
  rcases h2 with h2 | ⟨g, cap, cur, rfl, hg, hh, r⟩
  · exact .inl h2
  · exact .inr ⟨g, cap, cur, rfl, hg, (hb g rfl).trans hh, r⟩
theorem obj_ne {w : World} {a b : Nat} {c d : Array Value} {s t : TypeId} (ha : w.heap[a]? = some (.cells c s)) (hb : w.heap[b]? = some (.cells d t)) (h : s ≠ t) : a ≠ b := by
  intro e
  subst e
  rw [ha] at hb
  injection hb with hb
  injection hb with _ hb
  exact h hb
end Go.Proofs.Ytbkciencikdacaa
