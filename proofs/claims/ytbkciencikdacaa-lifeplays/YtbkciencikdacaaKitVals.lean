/- Slices of values of one cell each, of whatever program: a row of the call's own, what a slice shows, append. (No program in it: the types' numbers and facts are handed in.) -/
import Derived.WalkKit
import Derived.ProofKit
import Derived.OpenShut
import Derived.Below
import Derived.Laws.AppendOwnNone
namespace Go.Proofs.Ytbkciencikdacaa.Kit
open Go.ChangeShapes Go.WideShapes Go.ChangeAt Go.RowKit
set_option linter.unusedVariables false

/-- The slice value v is a row of the call's own (blocks from 'base' on), and holds xs. -/
def RowV (w : World) (base : Nat) (e : TypeId) (v : Value) (xs : List Value) : Prop := w.ownsRow base e 1 v xs.length xs
/-- What a slice value shows. -/
def Sees (w : World) (v : Value) (xs : List Value) : Prop :=
  ∃ ao cap, v = .slice ao xs.length cap ∧ xs.length ≤ cap ∧ cap ≤ maxLen ∧ (ao = none → cap = 0) ∧ (0 < xs.length → ∃ b off, ao = some ⟨b, off, none⟩ ∧ b < w.heap.size ∧ ∀ i x, xs[i]? = some x → w.cell? ⟨b, off + i, none⟩ = some x)
theorem Sees.below {w w' : World} {v : Value} {xs : List Value} (h : Sees w v xs) (hb : Below w.heap.size w w') : Sees w' v xs := by
  obtain ⟨ao, cap, h1, h2, h3, h4, h5⟩ := h
  refine ⟨ao, cap, h1, h2, h3, h4, fun h0 => ?_⟩
  obtain ⟨b, off, e, hl, hh⟩ := h5 h0
  exact ⟨b, off, e, Nat.lt_of_lt_of_le hl hb.size, fun i x hx => (hb.cell (by exact hl)).trans (hh i x hx)⟩
theorem RowV.sees {w : World} {base : Nat} {e : TypeId} {v : Value} {xs : List Value} (h : RowV w base e v xs) : Sees w v xs := by
  have h0 := h
  unfold RowV at h
  obtain ⟨h1, h2⟩ := h
  rcases h2 with ⟨h2, h3⟩ | ⟨g, cap, cur, hv, hg, hh, hn, hm, _, _⟩
  · exact ⟨none, 0, by rw [h3]; exact h2, by omega, by simp, fun _ => rfl, fun h => absurd h (by omega)⟩
  · refine ⟨_, cap, hv, hn, hm, by simp, fun _ => ⟨g, 0, rfl, (Array.getElem?_eq_some_iff.1 hh).1, fun i x hx => ?_⟩⟩
    subst hv
    unfold RowV at h0
    have hi := (List.getElem?_eq_some_iff.1 hx).1
    rw [Nat.zero_add, h0.cellAt i (by omega)]
    exact hx
theorem rowV_nil (w : World) (base : Nat) (e : TypeId) : RowV w base e (.slice none 0 0) [] := World.ownsRow_nil w base e 1
theorem rowV_lit (w : World) (base : Nat) (e : TypeId) (xs : List Value) (hb : base ≤ w.heap.size) (hm : xs.length ≤ maxLen) : RowV (w.alloc (.cells xs.toArray e)) base e (.slice (some ⟨w.heap.size, 0, none⟩) xs.length xs.length) xs := by
  have := World.ownsRow_lit (size := 1) (e := e) (base := base) w xs.toArray xs.length hb hm (by simp)
  simpa [RowV] using this
theorem RowV.mono {w : World} {base base' : Nat} {e : TypeId} {v : Value} {xs : List Value} (h : RowV w base e v xs) (hb : base' ≤ base) : RowV w base' e v xs := by
  obtain ⟨h1, h2⟩ := h
  refine ⟨h1, ?_⟩
  rcases h2 with h2 | ⟨g, cap, cur, hv, hg, r⟩
  · exact .inl h2
  · exact .inr ⟨g, cap, cur, hv, by omega, r⟩
theorem RowV.below {w w' : World} {base : Nat} {e : TypeId} {v : Value} {xs : List Value} (h : RowV w base e v xs) (hb : Below w.heap.size w w') : RowV w' base e v xs := by
  obtain ⟨h1, h2⟩ := h
  refine ⟨h1, ?_⟩
  rcases h2 with h2 | ⟨g, cap, cur, hv, hg, hh, r⟩
  · exact .inl h2
  · exact .inr ⟨g, cap, cur, hv, hg, by rw [hb.block g (Array.getElem?_eq_some_iff.1 hh).1]; exact hh, r⟩
theorem RowV.block {w : World} {base : Nat} {e : TypeId} {v : Value} {xs : List Value} (h : RowV w base e v xs) : ∀ j, v.ownBlock = some j → base ≤ j := by
  intro j hj
  unfold RowV at h
  exact (h.lt j hj).1
theorem info_partsV {P : Program} {E : TypeId} {z : Value} {s b : Nat} (h : (P.info? E).map (fun i => (i.zero, i.size, i.bytes)) = some (some z, s, b)) : ∃ i, P.info? E = some i ∧ i.zero = some z ∧ i.size = s ∧ i.bytes = b := by
  obtain ⟨i, hi, he⟩ := Option.map_eq_some_iff.1 h
  simp only [Prod.mk.injEq] at he
  exact ⟨i, hi, he.1, he.2.1, he.2.2⟩
theorem size_okV {n bytes : Nat} (hb : bytes ≤ 16) (h : n * 16 ≤ 140737488355328) : n * bytes ≤ 140737488355328 := Nat.le_trans (Nat.mul_le_mul_left n hb) h
theorem wpList_appV {P : Program} {T E : TypeId} {z : Value} {bytes : Nat} (hT : P.underlying T = some (.slice E)) (hI : (P.info? E).map (fun i => (i.zero, i.size, i.bytes)) = some (some z, 1, bytes)) (hzc : z.cells.size = 1) (hby : bytes ≤ 16) {ops : Array Oper} {rest : List Oper} {o : Oper} {a : Act} {Q : Exit → Act → World → Prop} {w : World} (hgd : o.guard = none) (s x : Operand)
    (ho : o.op = .call { callee := .builtin .append, args := #[s, x], argTypes := #[T, T] }) (base : Nat) (v : Value) (xs : List Value) (hs : a.eval s = v) (hown : RowV w base E v xs)
    (y : Value) (news : List Value) (hx : a.eval x = y) (hv : Sees w y news) (h1c : ∀ u ∈ news, u.oneCell' = true) (hlen : (xs.length + news.length) * 16 ≤ 140737488355328) (hbase : base ≤ w.heap.size)
    (h : ∀ v' w', RowV w' base E v' (xs ++ news) → Below base w w' → wpList P ops Q rest (a.put o.dst v') w') : wpList P ops Q (o :: rest) a w := by
  obtain ⟨i0, hi, hz0, hz1, hz2⟩ := info_partsV hI
  have fin : ∀ v' w', w'.ownsRow base E 1 v' (xs.length + news.length) (xs ++ news) → w.grownBy w' v.ownBlock → wpList P ops Q rest (a.put o.dst v') w' := by
    intro v' w' h1 h2
    refine h v' w' ?_ ((Below.refl _ _).grown h2 hbase hown.block)
    unfold RowV
    rw [List.length_append]; exact h1
  obtain ⟨ao, cap, rfl, h1, h2, h3, h4⟩ := hv
  cases ao with
  | none =>
    have hc := h3 rfl
    have hn : news = [] := List.eq_nil_of_length_eq_zero (by omega)
    subst hn
    subst hc
    refine wpList_append_own_none hgd s x T ho base E i0 1 hT hi v xs.length xs hs hown hx (h v w ?_ (Below.refl _ _))
    rw [List.append_nil]; exact hown
  | some ad =>
    refine wpList_append_own _ hgd s x T ho base E i0 z 1 bytes hT hi hz0 hz1 hz2 hzc (by omega) v xs.length xs hs hown ad news.length cap news hx (by simp) ?_ h1c (by unfold maxLen; omega) (size_okV hby hlen) hbase ?_
    · intro j u hj
      have hj' : j < news.length := (List.getElem?_eq_some_iff.1 hj).1
      obtain ⟨b, off, e, _, hh⟩ := h4 (by omega)
      cases e
      rw [Addr.add_lit]
      exact hh j u hj
    · intro v' w' k1 k2 _
      exact fin v' w' k1 k2
/-- A new row with one value in it: what 'append(b, x)' lays first. -/
theorem sees_one (w : World) (e : TypeId) (x : Value) (H : Nat) (hH : w.heap.size = H) : Sees (w.alloc (.cells #[x] e)) (.slice (some ⟨H, 0, none⟩) 1 1) [x] := by
  subst hH
  refine ⟨_, 1, rfl, by simp, by unfold maxLen; omega, by simp, fun _ => ⟨w.heap.size, 0, rfl, by simp, ?_⟩⟩
  intro i y hy
  match i, hy with
  | 0, hy => simp at hy; subst hy; simp
end Go.Proofs.Ytbkciencikdacaa.Kit
