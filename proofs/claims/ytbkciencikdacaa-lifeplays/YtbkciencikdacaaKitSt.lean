/- Slices of structs, of whatever program: each element lies in k cells. What a slice shows, a row of the call's own, append, cut. (No program in it: the types' numbers and facts are handed in.) -/
import Derived.Test.YtbkciencikdacaaKitVals
import Derived.Test.YtbkciencikdacaaKitApp
import Derived.Laws.AppendOwnNone
namespace Go.Proofs.Ytbkciencikdacaa.Kit
open Go.ChangeShapes Go.WideShapes Go.ChangeAt Go.RowKit
set_option linter.unusedVariables false

/-- How an element lies in memory: k cells, each of one cell. -/
structure Enc (α : Type) where
  k : Nat
  c : α → List Value
  len : ∀ x, (c x).length = k
  pos : 0 < k
  one : ∀ x, ∀ u ∈ c x, u.oneCell' = true
def Enc.flat {α : Type} (E : Enc α) (xs : List α) : List Value := xs.flatMap E.c
theorem Enc.flat_len {α : Type} (E : Enc α) (xs : List α) : (E.flat xs).length = xs.length * E.k := by
  induction xs with
  | nil => simp [Enc.flat]
  | cons x xs ih => unfold Enc.flat at *; rw [List.flatMap_cons, List.length_append, ih, E.len, List.length_cons, Nat.succ_mul, Nat.add_comm]
theorem Enc.flat_app {α : Type} (E : Enc α) (xs ys : List α) : E.flat (xs ++ ys) = E.flat xs ++ E.flat ys := by unfold Enc.flat; rw [List.flatMap_append]
theorem Enc.flat_one {α : Type} (E : Enc α) (xs : List α) : ∀ u ∈ E.flat xs, u.oneCell' = true := by
  intro u hu
  unfold Enc.flat at hu
  obtain ⟨x, _, hx⟩ := List.mem_flatMap.1 hu
  exact E.one x u hx
theorem Enc.flat_sing {α : Type} (E : Enc α) (x : α) : E.flat [x] = E.c x := by simp [Enc.flat]
theorem Enc.flat_at {α : Type} (E : Enc α) : ∀ (xs : List α) (i : Nat) (h : i < xs.length) (j : Nat), j < E.k → (E.flat xs)[i * E.k + j]? = (E.c xs[i])[j]?
  | x :: xs, 0, _, j, hj => by
    unfold Enc.flat
    rw [List.flatMap_cons, List.getElem?_append_left (by rw [E.len]; omega)]
    simp
  | x :: xs, i + 1, h, j, hj => by
    have ih := Enc.flat_at E xs i (by simpa using h) j hj
    have e : (i + 1) * E.k + j = E.k + (i * E.k + j) := by rw [Nat.succ_mul]; omega
    unfold Enc.flat at *
    rw [List.flatMap_cons, e, List.getElem?_append_right (by rw [E.len]; omega), E.len, Nat.add_sub_cancel_left, ih]
    simp
theorem Enc.flat_take {α : Type} (E : Enc α) (xs : List α) (n : Nat) : E.flat (xs.take n) = (E.flat xs).take (n * E.k) := by
  induction xs generalizing n with
  | nil => simp [Enc.flat]
  | cons x xs ih =>
    cases n with
    | zero => simp [Enc.flat]
    | succ n =>
      have := ih n
      unfold Enc.flat at *
      rw [List.take_succ_cons, List.flatMap_cons, List.flatMap_cons, this, Nat.succ_mul, List.take_append, E.len, List.take_of_length_le (l := E.c x) (by rw [E.len]; omega), Nat.add_sub_cancel]
theorem Enc.flat_drop {α : Type} (E : Enc α) (xs : List α) (n : Nat) : E.flat (xs.drop n) = (E.flat xs).drop (n * E.k) := by
  induction xs generalizing n with
  | nil => simp [Enc.flat]
  | cons x xs ih =>
    cases n with
    | zero => simp
    | succ n =>
      have := ih n
      unfold Enc.flat at *
      rw [List.drop_succ_cons, List.flatMap_cons, this, Nat.succ_mul, List.drop_append, E.len, List.drop_of_length_le (l := E.c x) (by rw [E.len]; omega), Nat.add_sub_cancel, List.nil_append]
/-- What a slice of such elements shows. -/
def SeesE {α : Type} (E : Enc α) (w : World) (v : Value) (xs : List α) : Prop :=
  ∃ ao cap, v = .slice ao xs.length cap ∧ xs.length ≤ cap ∧ cap ≤ maxLen ∧ (ao = none → cap = 0) ∧ (0 < xs.length → ∃ b off, ao = some ⟨b, off, none⟩ ∧ b < w.heap.size ∧ ∀ j x, (E.flat xs)[j]? = some x → w.cell? ⟨b, off + j, none⟩ = some x)
theorem SeesE.below {α : Type} {E : Enc α} {w w' : World} {v : Value} {xs : List α} (h : SeesE E w v xs) (hb : Below w.heap.size w w') : SeesE E w' v xs := by
  obtain ⟨ao, cap, h1, h2, h3, h4, h5⟩ := h
  refine ⟨ao, cap, h1, h2, h3, h4, fun h0 => ?_⟩
  obtain ⟨b, off, e, hl, hh⟩ := h5 h0
  exact ⟨b, off, e, Nat.lt_of_lt_of_le hl hb.size, fun i x hx => (hb.cell (by exact hl)).trans (hh i x hx)⟩
theorem seesE_nil {α : Type} (E : Enc α) (w : World) : SeesE E w (.slice none 0 0) [] := ⟨none, 0, rfl, Nat.le_refl _, Nat.zero_le _, fun _ => rfl, fun h => absurd h (by simp)⟩
theorem SeesE.form {α : Type} {E : Enc α} {w : World} {v : Value} {xs : List α} (h : SeesE E w v xs) : ∃ ao cap, v = .slice ao xs.length cap := by
  obtain ⟨ao, cap, h1, _⟩ := h
  exact ⟨ao, cap, h1⟩
/-- The cells of the elements, one by one. -/
theorem SeesE.cells {α : Type} {E : Enc α} {w : World} {ao : Option Addr} {n cap : Nat} {xs : List α} (h : SeesE E w (.slice ao n cap) xs) (h0 : 0 < xs.length) : ∃ b off, ao = some ⟨b, off, none⟩ ∧ n = xs.length ∧ b < w.heap.size ∧ ∀ (i : Nat) (hi : i < xs.length) (j : Nat) (x : Value), (E.c xs[i])[j]? = some x → w.cell? ⟨b, off + i * E.k + j, none⟩ = some x := by
  obtain ⟨ao', cap', h1, h2, h3, h4, h5⟩ := h
  injection h1 with e1 e2 e3
  subst e1
  obtain ⟨b, off, e, hl, hh⟩ := h5 h0
  refine ⟨b, off, e, e2, hl, fun i hi j x hx => ?_⟩
  have hj : j < E.k := by have := (List.getElem?_eq_some_iff.1 hx).1; rw [E.len] at this; exact this
  rw [Nat.add_assoc]
  exact hh _ x ((E.flat_at xs i hi j hj).trans hx)
theorem SeesE.take {α : Type} {E : Enc α} {w : World} {ao : Option Addr} {n cap : Nat} {xs : List α} (h : SeesE E w (.slice ao n cap) xs) (m : Nat) (hm : m ≤ xs.length) : SeesE E w (.slice ao m cap) (xs.take m) := by
  obtain ⟨ao', cap', h1, h2, h3, h4, h5⟩ := h
  injection h1 with e1 e2 e3
  subst e1 e3
  have hl : (xs.take m).length = m := by rw [List.length_take]; omega
  refine ⟨ao, cap, by rw [hl], by omega, h3, h4, fun h0 => ?_⟩
  obtain ⟨b, off, e, hb, hh⟩ := h5 (by omega)
  refine ⟨b, off, e, hb, fun j x hx => hh j x ?_⟩
  rw [E.flat_take, List.getElem?_take] at hx
  split at hx
  · exact hx
  · cases hx
theorem SeesE.drop {α : Type} {E : Enc α} {w : World} {b off n cap : Nat} {xs : List α} (h : SeesE E w (.slice (some ⟨b, off, none⟩) n cap) xs) (m : Nat) (hm : m ≤ xs.length) : SeesE E w (.slice (some ⟨b, off + m * E.k, none⟩) (n - m) (cap - m)) (xs.drop m) := by
  obtain ⟨ao', cap', h1, h2, h3, h4, h5⟩ := h
  injection h1 with e1 e2 e3
  subst e3
  have hl : (xs.drop m).length = xs.length - m := List.length_drop
  refine ⟨_, _, by rw [hl, e2], by omega, by omega, by simp, fun h0 => ?_⟩
  obtain ⟨b', off', e, hb, hh⟩ := h5 (by omega)
  rw [e] at e1
  injection e1 with e1
  injection e1 with e4 e5
  subst e4 e5
  refine ⟨_, _, rfl, hb, fun j x hx => ?_⟩
  rw [E.flat_drop, List.getElem?_drop] at hx
  rw [Nat.add_assoc]
  exact hh _ x hx
/-- A row of the call's own that holds such elements. -/
def RowE {α : Type} (E : Enc α) (w : World) (base : Nat) (e : TypeId) (v : Value) (xs : List α) : Prop := w.ownsRow base e E.k v xs.length (E.flat xs)
theorem rowE_nil {α : Type} (E : Enc α) (w : World) (base : Nat) (e : TypeId) : RowE E w base e (.slice none 0 0) [] := World.ownsRow_nil w base e E.k
theorem RowE.sees {α : Type} {E : Enc α} {w : World} {base : Nat} {e : TypeId} {v : Value} {xs : List α} (h : RowE E w base e v xs) : SeesE E w v xs := by
  have h0 := h
  unfold RowE at h
  obtain ⟨h1, h2⟩ := h
  rcases h2 with ⟨h2, h3⟩ | ⟨g, cap, cur, hv, hg, hh, hn, hm, _, _⟩
  · exact ⟨none, 0, by rw [h3]; exact h2, by omega, by simp, fun _ => rfl, fun h => absurd h (by omega)⟩
  · refine ⟨_, cap, hv, hn, hm, by simp, fun _ => ⟨g, 0, rfl, (Array.getElem?_eq_some_iff.1 hh).1, fun i x hx => ?_⟩⟩
    subst hv
    unfold RowE at h0
    have hi := (List.getElem?_eq_some_iff.1 hx).1
    rw [E.flat_len] at hi
    rw [Nat.zero_add, h0.cellAt i (by omega)]
    exact hx
theorem RowE.below {α : Type} {E : Enc α} {w w' : World} {base : Nat} {e : TypeId} {v : Value} {xs : List α} (h : RowE E w base e v xs) (hb : Below w.heap.size w w') : RowE E w' base e v xs := by
  obtain ⟨h1, h2⟩ := h
  refine ⟨h1, ?_⟩
  rcases h2 with h2 | ⟨g, cap, cur, hv, hg, hh, r⟩
  · exact .inl h2
  · exact .inr ⟨g, cap, cur, hv, hg, by rw [hb.block g (Array.getElem?_eq_some_iff.1 hh).1]; exact hh, r⟩
theorem RowE.mono {α : Type} {E : Enc α} {w : World} {base base' : Nat} {e : TypeId} {v : Value} {xs : List α} (h : RowE E w base e v xs) (hb : base' ≤ base) : RowE E w base' e v xs := by
  obtain ⟨h1, h2⟩ := h
  refine ⟨h1, ?_⟩
  rcases h2 with h2 | ⟨g, cap, cur, hv, hg, r⟩
  · exact .inl h2
  · exact .inr ⟨g, cap, cur, hv, by omega, r⟩
theorem RowE.block {α : Type} {E : Enc α} {w : World} {base : Nat} {e : TypeId} {v : Value} {xs : List α} (h : RowE E w base e v xs) : ∀ j, v.ownBlock = some j → base ≤ j := by
  intro j hj
  unfold RowE at h
  exact (h.lt j hj).1
theorem RowE.grow {α : Type} {E : Enc α} {w w' : World} {base B : Nat} {e : TypeId} {v : Value} {xs : List α} (h : RowE E w base e v xs) (hb : base ≤ w.heap.size) (hg : w.grownBy w' v.ownBlock) (hB : B ≤ base) : Below B w w' := ⟨hg.os, hg.tape, hg.output, hg.size, fun k hk => hg.block k (by omega) (fun e => by have := h.block k e.symm; omega)⟩
set_option maxRecDepth 4000 in
/-- append of such elements onto a row of the call's own. -/
theorem wpList_appE {α : Type} {E : Enc α} {P : Program} {T e : TypeId} {z : Value} {bytes : Nat} (hT : P.underlying T = some (.slice e)) (hI : (P.info? e).map (fun i => (i.zero, i.size, i.bytes)) = some (some z, E.k, bytes)) (hzc : z.cells.size = E.k) {ops : Array Oper} {rest : List Oper} {o : Oper} {a : Act} {Q : Exit → Act → World → Prop} {w : World} (hgd : o.guard = none) (s x : Operand)
    (ho : o.op = .call { callee := .builtin .append, args := #[s, x], argTypes := #[T, T] }) (base : Nat) (v : Value) (xs : List α) (hs : a.eval s = v) (hown : RowE E w base e v xs)
    (y : Value) (news : List α) (hx : a.eval x = y) (hv : SeesE E w y news) (hm : xs.length + news.length ≤ maxLen) (hlen : (xs.length + news.length) * bytes ≤ 140737488355328) (hbase : base ≤ w.heap.size)
    (h : ∀ v' w', RowE E w' base e v' (xs ++ news) → w.grownBy w' v.ownBlock → wpList P ops Q rest (a.put o.dst v') w') : wpList P ops Q (o :: rest) a w := by
  obtain ⟨i0, hi, hz0, hz1, hz2⟩ := info_partsV hI
  obtain ⟨ao, cap, rfl, h1, h2, h3, h4⟩ := hv
  cases ao with
  | none =>
    have hc := h3 rfl
    have hn : news = [] := List.eq_nil_of_length_eq_zero (by omega)
    subst hn
    subst hc
    refine wpList_append_own_none hgd s x T ho base e i0 E.k hT hi v xs.length (E.flat xs) hs hown hx (h v w ?_ ⟨rfl, rfl, rfl, Nat.le_refl _, fun _ _ _ => rfl⟩)
    rw [List.append_nil]; exact hown
  | some ad =>
    refine wpList_appS hT hI hzc E.pos hgd s x ho base v xs.length (E.flat xs) hs hown ad news.length cap (E.flat news) hx (E.flat_len news) ?_ (E.flat_one news) hm hlen hbase ?_
    · intro j u hj
      have hj' : j < (E.flat news).length := (List.getElem?_eq_some_iff.1 hj).1
      have h0 : 0 < news.length := by
        rw [E.flat_len] at hj'
        cases hn : news.length with
        | zero => rw [hn, Nat.zero_mul] at hj'; omega
        | succ n => omega
      obtain ⟨b, off, e2, _, hh⟩ := h4 h0
      cases e2
      rw [Addr.add_lit]
      exact hh j u hj
    · intro v' w' k1 k2
      refine h v' w' ?_ k2
      unfold RowE
      rw [List.length_append, E.flat_app]; exact k1
/-- A literal of one element. -/
theorem seesE_one {α : Type} (E : Enc α) (w : World) (e : TypeId) (x : α) (H : Nat) (hH : w.heap.size = H) : SeesE E (w.alloc (.cells (E.c x).toArray e)) (.slice (some ⟨H, 0, none⟩) 1 1) [x] := by
  subst hH
  refine ⟨_, 1, rfl, Nat.le_refl _, by unfold maxLen; omega, by simp, fun _ => ⟨_, 0, rfl, by simp, fun j u hu => ?_⟩⟩
  rw [E.flat_sing] at hu
  have h := (MapKept.heap_alloc w (.cells (E.c x).toArray e)).1
  rw [Nat.zero_add]
  simp only [World.cell?, h]
  rw [← hu]
  simp
end Go.Proofs.Ytbkciencikdacaa.Kit
