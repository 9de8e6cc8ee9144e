/- 'append' on a row of bytes of the call's own, whatever bytes are appended. -/
import Derived.Test.YtgkfbnjccfoaiaaViews
import Derived.Laws.AppendOwnNone
namespace Go.Proofs.Ytgkfbnjccfoaiaa
open Go.ChangeShapes Go.WideShapes Go.ChangeAt Go.RowKit
set_option linter.unusedVariables false

theorem row_block {w : World} {base : Nat} {k : IntKind} {e : TypeId} {v : Value} {zs : List Int} (h : Row w base k e v zs) : ∀ j, v.ownBlock = some j → base ≤ j := by
  intro j hj
  unfold Row at h
  exact (h.lt j hj).1

theorem wpList_app {ops : Array Oper} {rest : List Oper} {o : Oper} {a : Act} {Q : Exit → Act → World → Prop} {w : World} (hgd : o.guard = none) (s x : Operand)
    (ho : o.op = .call { callee := .builtin .append, args := #[s, x], argTypes := #[22, 22] }) (base : Nat) (v : Value) (xs : List Int) (hs : a.eval s = v) (hown : Row w base .u8 5 v xs)
    (B : Nat) (y : Value) (news : List Int) (hx : a.eval x = y) (hv : Vw B w .u8 y news) (hlen : xs.length + news.length ≤ 140737488355328) (hbase : base ≤ w.heap.size)
    (h : ∀ v' w', Row w' base .u8 5 v' (xs ++ news) → Below base w w' → wpList Try.prog ops Q rest (a.put o.dst v') w') : wpList Try.prog ops Q (o :: rest) a w := by
  obtain ⟨i0, hi, hz0, hz1, hz2⟩ := info_parts Try.info5
  have fin : ∀ v' w', w'.ownsRow base 5 1 v' (xs.length + news.length) (xs.map (Value.int .u8) ++ news.map (Value.int .u8)) → w.grownBy w' v.ownBlock → wpList Try.prog ops Q rest (a.put o.dst v') w' := by
    intro v' w' h1 h2
    refine h v' w' ?_ ((Below.refl _ _).grown h2 hbase (row_block hown))
    unfold Row
    rw [List.map_append, List.length_append]; exact h1
  rcases hv with ⟨rfl, ao, cap, rfl, hn, hcm⟩ | ⟨hz, b, off, cap, rfl, h1, h2, h3, h4⟩
  · cases ao with
    | none =>
      rw [hn rfl] at hx
      refine wpList_append_own_none hgd s x 22 ho base 5 i0 1 Try.underlying22 hi v xs.length (xs.map (Value.int .u8)) hs hown hx (h v w ?_ (Below.refl _ _))
      rw [List.append_nil]; exact hown
    | some ad =>
      refine wpList_append_own _ hgd s x 22 ho base 5 i0 (.int .u8 0) 1 1 Try.underlying22 hi hz0 hz1 hz2 rfl (by omega) v xs.length (xs.map (Value.int .u8)) hs hown ad 0 cap [] hx rfl (by intro j u hj; simp at hj) (by intro u hu; simp at hu) (by unfold maxLen; simp at hlen; omega) (by simp at hlen; omega) hbase ?_
      intro v' w' k1 k2 _
      exact fin v' w' (by simpa using k1) k2
  · refine wpList_append_own _ hgd s x 22 ho base 5 i0 (.int .u8 0) 1 1 Try.underlying22 hi hz0 hz1 hz2 rfl (by omega) v xs.length (xs.map (Value.int .u8)) hs hown ⟨b, off, none⟩ news.length cap (news.map (Value.int .u8)) hx (by simp) ?_ (ints_oneCell _ _) (by unfold maxLen; omega) (by omega) hbase ?_
    · intro j u hj
      have hj' : j < news.length := by have := (List.getElem?_eq_some_iff.1 hj).1; simpa using this
      rw [Addr.add_lit, h4 j hj', ← hj]; simp [hj']
    · intro v' w' k1 k2 _
      exact fin v' w' k1 k2

/-- A new row with nothing in it: '[]byte{}'. -/
theorem row_empty (w : World) (base : Nat) (hb : base ≤ w.heap.size) : Row (w.alloc (.cells #[] 5)) base .u8 5 (.slice (some ⟨w.heap.size, 0, none⟩) 0 0) [] :=
  World.ownsRow_lit (size := 1) w #[] 0 hb (by simp) rfl
/-- A new row with one byte in it: what 'append(b, x)' lays first. -/
theorem view_one (w : World) (z : Int) (H : Nat) (hH : w.heap.size = H) : Vw (H + 1) (w.alloc (.cells #[.int .u8 z] 5)) .u8 (.slice (some ⟨H, 0, none⟩) 1 1) [z] := by
  subst hH
  refine .inr ⟨by simp, w.heap.size, 0, 1, rfl, by simp, by unfold maxLen; omega, by omega, ?_⟩
  intro i hi
  match i, hi with
  | 0, _ => simp

theorem Row.mono {w : World} {base base' : Nat} {k : IntKind} {e : TypeId} {v : Value} {zs : List Int} (h : Row w base k e v zs) (hb : base' ≤ base) : Row w base' k e v zs := by
  obtain ⟨h1, h2⟩ := h
  refine ⟨h1, ?_⟩
  rcases h2 with h2 | ⟨g, cap, cur, hv, hg, r⟩
  · exact .inl h2
  · exact .inr ⟨g, cap, cur, hv, by omega, r⟩
theorem Row.alloc {w : World} {base : Nat} {k : IntKind} {e : TypeId} {v : Value} {zs : List Int} (h : Row w base k e v zs) (o : Obj) : Row (w.alloc o) base k e v zs := World.ownsRow.alloc h o
/-- A row stands where nothing below some block has turned, and its own block is below it. -/
theorem Row.below {w w' : World} {base B : Nat} {k : IntKind} {e : TypeId} {v : Value} {zs : List Int} (h : Row w base k e v zs) (hb : Below B w w') (hB : ∀ j, v.ownBlock = some j → j < B) : Row w' base k e v zs := by
  obtain ⟨h1, h2⟩ := h
  refine ⟨h1, ?_⟩
  rcases h2 with h2 | ⟨g, cap, cur, hv, hg, hh, r⟩
  · exact .inl h2
  · exact .inr ⟨g, cap, cur, hv, hg, by rw [hb.block g (hB g (by rw [hv]; rfl))]; exact hh, r⟩
theorem Row.lt {w : World} {base : Nat} {k : IntKind} {e : TypeId} {v : Value} {zs : List Int} (h : Row w base k e v zs) : ∀ j, v.ownBlock = some j → j < w.heap.size := fun j hj => (World.ownsRow.lt h j hj).2
theorem Row.stored {w : World} {base g cap n : Nat} {k : IntKind} {e : TypeId} {zs : List Int} (h : Row w base k e (.slice (some ⟨g, 0, none⟩) n cap) zs) (hn : zs.length = n) (j : Nat) (z : Int) : Row (w.setCell ⟨g, j, none⟩ (.int k z)) base k e (.slice (some ⟨g, 0, none⟩) n cap) (zs.set j z) := by
  unfold Row at *
  subst hn
  have := h.stored j (.int k z)
  rw [List.length_set, List.map_set]; exact this.1
theorem Row.frozen {w : World} {base g cap n : Nat} {k : IntKind} {e : TypeId} {zs : List Int} (h : Row w base k e (.slice (some ⟨g, 0, none⟩) n cap) zs) (hn : zs.length = n) (j : Nat) : w.frozen? ⟨g, j, none⟩ = false := by
  unfold Row at h; subst hn; exact h.frozenAt j
end Go.Proofs.Ytgkfbnjccfoaiaa
