/- Rows, structs, boxes: what lies where, what turns. (No program in it.) -/
import Derived.WalkKit
import Derived.ProofKit
import Derived.OpenShut
import Derived.Below
import Derived.Laws.AppendOwnNone
import Derived.Deep.AppendLies
import Derived.Deep.Quiet
import Derived.BigQuiet
import Derived.Laws.IdiomCopy
import Derived.Lib.AppendZerosOnto
namespace Go.Proofs.Ythjcmagionaepaa.Kit
open Go.ChangeShapes Go.WideShapes Go.ChangeAt Go.RowKit
set_option linter.unusedVariables false

/-- The slice value v is a row of the call's own (blocks from 'base' on), and holds xs. -/
def RowV (w : World) (base : Nat) (e : TypeId) (v : Value) (xs : List Value) : Prop := w.ownsRow base e 1 v xs.length xs
/-- What a slice value shows. -/
def Sees (w : World) (v : Value) (xs : List Value) : Prop :=
  ∃ ao cap, v = .slice ao xs.length cap ∧ xs.length ≤ cap ∧ cap ≤ maxLen ∧ (ao = none → cap = 0) ∧ (0 < xs.length → ∃ b off, ao = some ⟨b, off, none⟩ ∧ b < w.heap.size ∧ ∀ i x, xs[i]? = some x → w.cell? ⟨b, off + i, none⟩ = some x)
theorem Sees.below {w w' : World} {v : Value} {xs : List Value} (h : Sees w v xs) (hb : Below w.heap.size w w') : Sees w' v xs := by
  obtain ⟨ao, cap, h1, h2, h3, h4, h5⟩ := h
  refine ⟨ao, cap, h1, h2, h3, h4, fun h0 => ?_⟩
  obtain ⟨b, off, e, hl, hh⟩ := h5 h0
  exact ⟨b, off, e, Nat.lt_of_lt_of_le hl hb.size, fun i x hx => (hb.cell (by exact hl)).trans (hh i x hx)⟩
theorem RowV.sees {w : World} {base : Nat} {e : TypeId} {v : Value} {xs : List Value} (h : RowV w base e v xs) : Sees w v xs := by
  have h0 := h
  unfold RowV at h
  obtain ⟨h1, h2⟩ := h
  rcases h2 with ⟨h2, h3⟩ | ⟨g, cap, cur, hv, hg, hh, hn, hm, _, _⟩
  · exact ⟨none, 0, by rw [h3]; exact h2, by omega, by simp, fun _ => rfl, fun h => absurd h (by omega)⟩
  · refine ⟨_, cap, hv, hn, hm, by simp, fun _ => ⟨g, 0, rfl, (Array.getElem?_eq_some_iff.1 hh).1, fun i x hx => ?_⟩⟩
    subst hv
    unfold RowV at h0
    have hi := (List.getElem?_eq_some_iff.1 hx).1
    rw [Nat.zero_add, h0.cellAt i (by omega)]
    exact hx
theorem rowV_nil (w : World) (base : Nat) (e : TypeId) : RowV w base e (.slice none 0 0) [] := World.ownsRow_nil w base e 1
theorem rowV_lit (w : World) (base : Nat) (e : TypeId) (xs : List Value) (hb : base ≤ w.heap.size) (hm : xs.length ≤ maxLen) : RowV (w.alloc (.cells xs.toArray e)) base e (.slice (some ⟨w.heap.size, 0, none⟩) xs.length xs.length) xs := by
  have := World.ownsRow_lit (size := 1) (e := e) (base := base) w xs.toArray xs.length hb hm (by simp)
  simpa [RowV] using this
theorem RowV.mono {w : World} {base base' : Nat} {e : TypeId} {v : Value} {xs : List Value} (h : RowV w base e v xs) (hb : base' ≤ base) : RowV w base' e v xs := by
  obtain ⟨h1, h2⟩ := h
  refine ⟨h1, ?_⟩
  rcases h2 with h2 | ⟨g, cap, cur, hv, hg, r⟩
  · exact .inl h2
  · exact .inr ⟨g, cap, cur, hv, by omega, r⟩
theorem RowV.below {w w' : World} {base : Nat} {e : TypeId} {v : Value} {xs : List Value} (h : RowV w base e v xs) (hb : Below w.heap.size w w') : RowV w' base e v xs := by
  obtain ⟨h1, h2⟩ := h
  refine ⟨h1, ?_⟩
  rcases h2 with h2 | ⟨g, cap, cur, hv, hg, hh, r⟩
  · exact .inl h2
  · exact .inr ⟨g, cap, cur, hv, hg, by rw [hb.block g (Array.getElem?_eq_some_iff.1 hh).1]; exact hh, r⟩
theorem RowV.block {w : World} {base : Nat} {e : TypeId} {v : Value} {xs : List Value} (h : RowV w base e v xs) : ∀ j, v.ownBlock = some j → base ≤ j := by
  intro j hj
  unfold RowV at h
  exact (h.lt j hj).1
theorem info_partsV {P : Program} {E : TypeId} {z : Value} {s b : Nat} (h : (P.info? E).map (fun i => (i.zero, i.size, i.bytes)) = some (some z, s, b)) : ∃ i, P.info? E = some i ∧ i.zero = some z ∧ i.size = s ∧ i.bytes = b := by
  obtain ⟨i, hi, he⟩ := Option.map_eq_some_iff.1 h
  simp only [Prod.mk.injEq] at he
  exact ⟨i, hi, he.1, he.2.1, he.2.2⟩
theorem size_okV {n bytes : Nat} (hb : bytes ≤ 16) (h : n * 16 ≤ 140737488355328) : n * bytes ≤ 140737488355328 := Nat.le_trans (Nat.mul_le_mul_left n hb) h
theorem wpList_appV {P : Program} {T E : TypeId} {z : Value} {bytes : Nat} (hT : P.underlying T = some (.slice E)) (hI : (P.info? E).map (fun i => (i.zero, i.size, i.bytes)) = some (some z, 1, bytes)) (hzc : z.cells.size = 1) (hby : bytes ≤ 16) {ops : Array Oper} {rest : List Oper} {o : Oper} {a : Act} {Q : Exit → Act → World → Prop} {w : World} (hgd : o.guard = none) (s x : Operand)
    (ho : o.op = .call { callee := .builtin .append, args := #[s, x], argTypes := #[T, T] }) (base : Nat) (v : Value) (xs : List Value) (hs : a.eval s = v) (hown : RowV w base E v xs)
    (y : Value) (news : List Value) (hx : a.eval x = y) (hv : Sees w y news) (h1c : ∀ u ∈ news, u.oneCell' = true) (hlen : (xs.length + news.length) * 16 ≤ 140737488355328) (hbase : base ≤ w.heap.size)
    (h : ∀ v' w', RowV w' base E v' (xs ++ news) → Below base w w' → wpList P ops Q rest (a.put o.dst v') w') : wpList P ops Q (o :: rest) a w := by
  obtain ⟨i0, hi, hz0, hz1, hz2⟩ := info_partsV hI
  have fin : ∀ v' w', w'.ownsRow base E 1 v' (xs.length + news.length) (xs ++ news) → w.grownBy w' v.ownBlock → wpList P ops Q rest (a.put o.dst v') w' := by
    intro v' w' h1 h2
    refine h v' w' ?_ ((Below.refl _ _).grown h2 hbase hown.block)
    unfold RowV
    rw [List.length_append]; exact h1
  obtain ⟨ao, cap, rfl, h1, h2, h3, h4⟩ := hv
  cases ao with
  | none =>
    have hc := h3 rfl
    have hn : news = [] := List.eq_nil_of_length_eq_zero (by omega)
    subst hn
    subst hc
    refine wpList_append_own_none hgd s x T ho base E i0 1 hT hi v xs.length xs hs hown hx (h v w ?_ (Below.refl _ _))
    rw [List.append_nil]; exact hown
  | some ad =>
    refine wpList_append_own _ hgd s x T ho base E i0 z 1 bytes hT hi hz0 hz1 hz2 hzc (by omega) v xs.length xs hs hown ad news.length cap news hx (by simp) ?_ h1c (by unfold maxLen; omega) (size_okV hby hlen) hbase ?_
    · intro j u hj
      have hj' : j < news.length := (List.getElem?_eq_some_iff.1 hj).1
      obtain ⟨b, off, e, _, hh⟩ := h4 (by omega)
      cases e
      rw [Addr.add_lit]
      exact hh j u hj
    · intro v' w' k1 k2 _
      exact fin v' w' k1 k2
/-- A new row with one value in it: what 'append(b, x)' lays first. -/
theorem sees_one (w : World) (e : TypeId) (x : Value) (H : Nat) (hH : w.heap.size = H) : Sees (w.alloc (.cells #[x] e)) (.slice (some ⟨H, 0, none⟩) 1 1) [x] := by
  subst hH
  refine ⟨_, 1, rfl, by simp, by unfold maxLen; omega, by simp, fun _ => ⟨w.heap.size, 0, rfl, by simp, ?_⟩⟩
  intro i y hy
  match i, hy with
  | 0, hy => simp at hy; subst hy; simp
end Go.Proofs.Ythjcmagionaepaa.Kit

namespace Go.Proofs.Ythjcmagionaepaa.Kit
open Go.ChangeShapes Go.WideShapes Go.ChangeAt Go.RowKit
set_option linter.unusedVariables false

theorem step_appS {P : Program} {T E : TypeId} {z : Value} {sz bytes : Nat} (hT : P.underlying T = some (.slice E)) (hI : (P.info? E).map (fun i => (i.zero, i.size, i.bytes)) = some (some z, sz, bytes)) (hzc : z.cells.size = sz) (hsz : 0 < sz) {ops : Array Oper} {o : Oper} {a : Act} {K : Act → World → Prop} {Q : Exit → Act → World → Prop} {F : Prop} {w : World} (hgd : o.guard = none) (s x : Operand)
    (ho : o.op = .call { callee := .builtin .append, args := #[s, x], argTypes := #[T, T] }) (base : Nat) (v : Value) (n : Nat) (xs : List Value) (hs : a.eval s = v) (hown : w.ownsRow base E sz v n xs)
    (ad : Addr) (m cap : Nat) (news : List Value) (hx : a.eval x = .slice (some ad) m cap) (hl : news.length = m * sz) (hc : ∀ (j : Nat) u, news[j]? = some u → w.cell? (ad.add j) = some u) (h1c : ∀ u ∈ news, u.oneCell' = true) (hm : n + m ≤ maxLen) (hlen : (n + m) * bytes ≤ 140737488355328) (hbase : base ≤ w.heap.size)
    (h : ∀ v' w', w'.ownsRow base E sz v' (n + m) (xs ++ news) → w.grownBy w' v.ownBlock → K (a.put o.dst v') w') : if Region.wanted o (yielded ops a.tmps) = true then Oper.wp P o a w K Q else F := by
  have hw : Region.wanted o (yielded ops a.tmps) = true := by simp [Region.wanted, hgd]
  rw [if_pos hw]
  obtain ⟨i0, hi, hz0, hz1, hz2⟩ := info_partsV hI
  exact wp_append_own w s x T ho base E i0 z sz bytes hT hi hz0 hz1 hz2 hzc hsz v n xs hs hown ad m cap news hx hl hc h1c hm hlen hbase (fun v' w' k1 k2 _ => h v' w' k1 k2)
theorem wpList_appS {P : Program} {T E : TypeId} {z : Value} {sz bytes : Nat} (hT : P.underlying T = some (.slice E)) (hI : (P.info? E).map (fun i => (i.zero, i.size, i.bytes)) = some (some z, sz, bytes)) (hzc : z.cells.size = sz) (hsz : 0 < sz) {ops : Array Oper} {rest : List Oper} {o : Oper} {a : Act} {Q : Exit → Act → World → Prop} {w : World} (hgd : o.guard = none) (s x : Operand)
    (ho : o.op = .call { callee := .builtin .append, args := #[s, x], argTypes := #[T, T] }) (base : Nat) (v : Value) (n : Nat) (xs : List Value) (hs : a.eval s = v) (hown : w.ownsRow base E sz v n xs)
    (ad : Addr) (m cap : Nat) (news : List Value) (hx : a.eval x = .slice (some ad) m cap) (hl : news.length = m * sz) (hc : ∀ (j : Nat) u, news[j]? = some u → w.cell? (ad.add j) = some u) (h1c : ∀ u ∈ news, u.oneCell' = true) (hm : n + m ≤ maxLen) (hlen : (n + m) * bytes ≤ 140737488355328) (hbase : base ≤ w.heap.size)
    (h : ∀ v' w', w'.ownsRow base E sz v' (n + m) (xs ++ news) → w.grownBy w' v.ownBlock → wpList P ops Q rest (a.put o.dst v') w') : wpList P ops Q (o :: rest) a w := by
  obtain ⟨i0, hi, hz0, hz1, hz2⟩ := info_partsV hI
  exact wpList_append_own _ hgd s x T ho base E i0 z sz bytes hT hi hz0 hz1 hz2 hzc hsz v n xs hs hown ad m cap news hx hl hc h1c hm hlen hbase (fun v' w' k1 k2 _ => h v' w' k1 k2)
end Go.Proofs.Ythjcmagionaepaa.Kit

namespace Go.Proofs.Ythjcmagionaepaa.Kit
open Go.ChangeShapes Go.WideShapes Go.ChangeAt Go.RowKit
set_option linter.unusedVariables false

/-- How an element lies in memory: k cells, each of one cell. -/
structure Enc (α : Type) where
  k : Nat
  c : α → List Value
  len : ∀ x, (c x).length = k
  pos : 0 < k
  one : ∀ x, ∀ u ∈ c x, u.oneCell' = true
def Enc.flat {α : Type} (E : Enc α) (xs : List α) : List Value := xs.flatMap E.c
theorem Enc.flat_len {α : Type} (E : Enc α) (xs : List α) : (E.flat xs).length = xs.length * E.k := by
  induction xs with
  | nil => simp [Enc.flat]
  | cons x xs ih => unfold Enc.flat at *; rw [List.flatMap_cons, List.length_append, ih, E.len, List.length_cons, Nat.succ_mul, Nat.add_comm]
theorem Enc.flat_app {α : Type} (E : Enc α) (xs ys : List α) : E.flat (xs ++ ys) = E.flat xs ++ E.flat ys := by unfold Enc.flat; rw [List.flatMap_append]
theorem Enc.flat_one {α : Type} (E : Enc α) (xs : List α) : ∀ u ∈ E.flat xs, u.oneCell' = true := by
  intro u hu
  unfold Enc.flat at hu
  obtain ⟨x, _, hx⟩ := List.mem_flatMap.1 hu
  exact E.one x u hx
theorem Enc.flat_sing {α : Type} (E : Enc α) (x : α) : E.flat [x] = E.c x := by simp [Enc.flat]
theorem Enc.flat_at {α : Type} (E : Enc α) : ∀ (xs : List α) (i : Nat) (h : i < xs.length) (j : Nat), j < E.k → (E.flat xs)[i * E.k + j]? = (E.c xs[i])[j]?
  | x :: xs, 0, _, j, hj => by
    unfold Enc.flat
    rw [List.flatMap_cons, List.getElem?_append_left (by rw [E.len]; omega)]
    simp
  | x :: xs, i + 1, h, j, hj => by
    have ih := Enc.flat_at E xs i (by simpa using h) j hj
    have e : (i + 1) * E.k + j = E.k + (i * E.k + j) := by rw [Nat.succ_mul]; omega
    unfold Enc.flat at *
    rw [List.flatMap_cons, e, List.getElem?_append_right (by rw [E.len]; omega), E.len, Nat.add_sub_cancel_left, ih]
    simp
theorem Enc.flat_take {α : Type} (E : Enc α) (xs : List α) (n : Nat) : E.flat (xs.take n) = (E.flat xs).take (n * E.k) := by
  induction xs generalizing n with
  | nil => simp [Enc.flat]
  | cons x xs ih =>
    cases n with
    | zero => simp [Enc.flat]
    | succ n =>
      have := ih n
      unfold Enc.flat at *
      rw [List.take_succ_cons, List.flatMap_cons, List.flatMap_cons, this, Nat.succ_mul, List.take_append, E.len, List.take_of_length_le (l := E.c x) (by rw [E.len]; omega), Nat.add_sub_cancel]
theorem Enc.flat_drop {α : Type} (E : Enc α) (xs : List α) (n : Nat) : E.flat (xs.drop n) = (E.flat xs).drop (n * E.k) := by
  induction xs generalizing n with
  | nil => simp [Enc.flat]
  | cons x xs ih =>
    cases n with
    | zero => simp
    | succ n =>
      have := ih n
      unfold Enc.flat at *
      rw [List.drop_succ_cons, List.flatMap_cons, this, Nat.succ_mul, List.drop_append, E.len, List.drop_of_length_le (l := E.c x) (by rw [E.len]; omega), Nat.add_sub_cancel, List.nil_append]
/-- What a slice of such elements shows. -/
def SeesE {α : Type} (E : Enc α) (w : World) (v : Value) (xs : List α) : Prop :=
  ∃ ao cap, v = .slice ao xs.length cap ∧ xs.length ≤ cap ∧ cap ≤ maxLen ∧ (ao = none → cap = 0) ∧ (0 < xs.length → ∃ b off, ao = some ⟨b, off, none⟩ ∧ b < w.heap.size ∧ ∀ j x, (E.flat xs)[j]? = some x → w.cell? ⟨b, off + j, none⟩ = some x)
theorem SeesE.below {α : Type} {E : Enc α} {w w' : World} {v : Value} {xs : List α} (h : SeesE E w v xs) (hb : Below w.heap.size w w') : SeesE E w' v xs := by
  obtain ⟨ao, cap, h1, h2, h3, h4, h5⟩ := h
  refine ⟨ao, cap, h1, h2, h3, h4, fun h0 => ?_⟩
  obtain ⟨b, off, e, hl, hh⟩ := h5 h0
  exact ⟨b, off, e, Nat.lt_of_lt_of_le hl hb.size, fun i x hx => (hb.cell (by exact hl)).trans (hh i x hx)⟩
theorem seesE_nil {α : Type} (E : Enc α) (w : World) : SeesE E w (.slice none 0 0) [] := ⟨none, 0, rfl, Nat.le_refl _, Nat.zero_le _, fun _ => rfl, fun h => absurd h (by simp)⟩
theorem SeesE.form {α : Type} {E : Enc α} {w : World} {v : Value} {xs : List α} (h : SeesE E w v xs) : ∃ ao cap, v = .slice ao xs.length cap := by
  obtain ⟨ao, cap, h1, _⟩ := h
  exact ⟨ao, cap, h1⟩
/-- The cells of the elements, one by one. -/
theorem SeesE.cells {α : Type} {E : Enc α} {w : World} {ao : Option Addr} {n cap : Nat} {xs : List α} (h : SeesE E w (.slice ao n cap) xs) (h0 : 0 < xs.length) : ∃ b off, ao = some ⟨b, off, none⟩ ∧ n = xs.length ∧ b < w.heap.size ∧ ∀ (i : Nat) (hi : i < xs.length) (j : Nat) (x : Value), (E.c xs[i])[j]? = some x → w.cell? ⟨b, off + i * E.k + j, none⟩ = some x := by
  obtain ⟨ao', cap', h1, h2, h3, h4, h5⟩ := h
  injection h1 with e1 e2 e3
  subst e1
  obtain ⟨b, off, e, hl, hh⟩ := h5 h0
  refine ⟨b, off, e, e2, hl, fun i hi j x hx => ?_⟩
  have hj : j < E.k := by have := (List.getElem?_eq_some_iff.1 hx).1; rw [E.len] at this; exact this
  rw [Nat.add_assoc]
  exact hh _ x ((E.flat_at xs i hi j hj).trans hx)
theorem SeesE.take {α : Type} {E : Enc α} {w : World} {ao : Option Addr} {n cap : Nat} {xs : List α} (h : SeesE E w (.slice ao n cap) xs) (m : Nat) (hm : m ≤ xs.length) : SeesE E w (.slice ao m cap) (xs.take m) := by
  obtain ⟨ao', cap', h1, h2, h3, h4, h5⟩ := h
  injection h1 with e1 e2 e3
  subst e1 e3
  have hl : (xs.take m).length = m := by rw [List.length_take]; omega
  refine ⟨ao, cap, by rw [hl], by omega, h3, h4, fun h0 => ?_⟩
  obtain ⟨b, off, e, hb, hh⟩ := h5 (by omega)
  refine ⟨b, off, e, hb, fun j x hx => hh j x ?_⟩
  rw [E.flat_take, List.getElem?_take] at hx
  split at hx
  · exact hx
  · cases hx
theorem SeesE.drop {α : Type} {E : Enc α} {w : World} {b off n cap : Nat} {xs : List α} (h : SeesE E w (.slice (some ⟨b, off, none⟩) n cap) xs) (m : Nat) (hm : m ≤ xs.length) : SeesE E w (.slice (some ⟨b, off + m * E.k, none⟩) (n - m) (cap - m)) (xs.drop m) := by
  obtain ⟨ao', cap', h1, h2, h3, h4, h5⟩ := h
  injection h1 with e1 e2 e3
  subst e3
  have hl : (xs.drop m).length = xs.length - m := List.length_drop
  refine ⟨_, _, by rw [hl, e2], by omega, by omega, by simp, fun h0 => ?_⟩
  obtain ⟨b', off', e, hb, hh⟩ := h5 (by omega)
  rw [e] at e1
  injection e1 with e1
  injection e1 with e4 e5
  subst e4 e5
  refine ⟨_, _, rfl, hb, fun j x hx => ?_⟩
  rw [E.flat_drop, List.getElem?_drop] at hx
  rw [Nat.add_assoc]
  exact hh _ x hx
/-- A row of the call's own that holds such elements. -/
def RowE {α : Type} (E : Enc α) (w : World) (base : Nat) (e : TypeId) (v : Value) (xs : List α) : Prop := w.ownsRow base e E.k v xs.length (E.flat xs)
theorem rowE_nil {α : Type} (E : Enc α) (w : World) (base : Nat) (e : TypeId) : RowE E w base e (.slice none 0 0) [] := World.ownsRow_nil w base e E.k
theorem RowE.sees {α : Type} {E : Enc α} {w : World} {base : Nat} {e : TypeId} {v : Value} {xs : List α} (h : RowE E w base e v xs) : SeesE E w v xs := by
  have h0 := h
  unfold RowE at h
  obtain ⟨h1, h2⟩ := h
  rcases h2 with ⟨h2, h3⟩ | ⟨g, cap, cur, hv, hg, hh, hn, hm, _, _⟩
  · exact ⟨none, 0, by rw [h3]; exact h2, by omega, by simp, fun _ => rfl, fun h => absurd h (by omega)⟩
  · refine ⟨_, cap, hv, hn, hm, by simp, fun _ => ⟨g, 0, rfl, (Array.getElem?_eq_some_iff.1 hh).1, fun i x hx => ?_⟩⟩
    subst hv
    unfold RowE at h0
    have hi := (List.getElem?_eq_some_iff.1 hx).1
    rw [E.flat_len] at hi
    rw [Nat.zero_add, h0.cellAt i (by omega)]
    exact hx
theorem RowE.below {α : Type} {E : Enc α} {w w' : World} {base : Nat} {e : TypeId} {v : Value} {xs : List α} (h : RowE E w base e v xs) (hb : Below w.heap.size w w') : RowE E w' base e v xs := by
  obtain ⟨h1, h2⟩ := h
  refine ⟨h1, ?_⟩
  rcases h2 with h2 | ⟨g, cap, cur, hv, hg, hh, r⟩
  · exact .inl h2
  · exact .inr ⟨g, cap, cur, hv, hg, by rw [hb.block g (Array.getElem?_eq_some_iff.1 hh).1]; exact hh, r⟩
theorem RowE.mono {α : Type} {E : Enc α} {w : World} {base base' : Nat} {e : TypeId} {v : Value} {xs : List α} (h : RowE E w base e v xs) (hb : base' ≤ base) : RowE E w base' e v xs := by
  obtain ⟨h1, h2⟩ := h
  refine ⟨h1, ?_⟩
  rcases h2 with h2 | ⟨g, cap, cur, hv, hg, r⟩
  · exact .inl h2
  · exact .inr ⟨g, cap, cur, hv, by omega, r⟩
theorem RowE.block {α : Type} {E : Enc α} {w : World} {base : Nat} {e : TypeId} {v : Value} {xs : List α} (h : RowE E w base e v xs) : ∀ j, v.ownBlock = some j → base ≤ j := by
  intro j hj
  unfold RowE at h
  exact (h.lt j hj).1
theorem RowE.grow {α : Type} {E : Enc α} {w w' : World} {base B : Nat} {e : TypeId} {v : Value} {xs : List α} (h : RowE E w base e v xs) (hb : base ≤ w.heap.size) (hg : w.grownBy w' v.ownBlock) (hB : B ≤ base) : Below B w w' := ⟨hg.os, hg.tape, hg.output, hg.size, fun k hk => hg.block k (by omega) (fun e => by have := h.block k e.symm; omega)⟩
set_option maxRecDepth 4000 in
/-- append of such elements onto a row of the call's own. -/
theorem wpList_appE {α : Type} {E : Enc α} {P : Program} {T e : TypeId} {z : Value} {bytes : Nat} (hT : P.underlying T = some (.slice e)) (hI : (P.info? e).map (fun i => (i.zero, i.size, i.bytes)) = some (some z, E.k, bytes)) (hzc : z.cells.size = E.k) {ops : Array Oper} {rest : List Oper} {o : Oper} {a : Act} {Q : Exit → Act → World → Prop} {w : World} (hgd : o.guard = none) (s x : Operand)
    (ho : o.op = .call { callee := .builtin .append, args := #[s, x], argTypes := #[T, T] }) (base : Nat) (v : Value) (xs : List α) (hs : a.eval s = v) (hown : RowE E w base e v xs)
    (y : Value) (news : List α) (hx : a.eval x = y) (hv : SeesE E w y news) (hm : xs.length + news.length ≤ maxLen) (hlen : (xs.length + news.length) * bytes ≤ 140737488355328) (hbase : base ≤ w.heap.size)
    (h : ∀ v' w', RowE E w' base e v' (xs ++ news) → w.grownBy w' v.ownBlock → wpList P ops Q rest (a.put o.dst v') w') : wpList P ops Q (o :: rest) a w := by
  obtain ⟨i0, hi, hz0, hz1, hz2⟩ := info_partsV hI
  obtain ⟨ao, cap, rfl, h1, h2, h3, h4⟩ := hv
  cases ao with
  | none =>
    have hc := h3 rfl
    have hn : news = [] := List.eq_nil_of_length_eq_zero (by omega)
    subst hn
    subst hc
    refine wpList_append_own_none hgd s x T ho base e i0 E.k hT hi v xs.length (E.flat xs) hs hown hx (h v w ?_ ⟨rfl, rfl, rfl, Nat.le_refl _, fun _ _ _ => rfl⟩)
    rw [List.append_nil]; exact hown
  | some ad =>
    refine wpList_appS hT hI hzc E.pos hgd s x ho base v xs.length (E.flat xs) hs hown ad news.length cap (E.flat news) hx (E.flat_len news) ?_ (E.flat_one news) hm hlen hbase ?_
    · intro j u hj
      have hj' : j < (E.flat news).length := (List.getElem?_eq_some_iff.1 hj).1
      have h0 : 0 < news.length := by
        rw [E.flat_len] at hj'
        cases hn : news.length with
        | zero => rw [hn, Nat.zero_mul] at hj'; omega
        | succ n => omega
      obtain ⟨b, off, e2, _, hh⟩ := h4 h0
      cases e2
      rw [Addr.add_lit]
      exact hh j u hj
    · intro v' w' k1 k2
      refine h v' w' ?_ k2
      unfold RowE
      rw [List.length_append, E.flat_app]; exact k1
/-- A literal of one element. -/
theorem seesE_one {α : Type} (E : Enc α) (w : World) (e : TypeId) (x : α) (H : Nat) (hH : w.heap.size = H) : SeesE E (w.alloc (.cells (E.c x).toArray e)) (.slice (some ⟨H, 0, none⟩) 1 1) [x] := by
  subst hH
  refine ⟨_, 1, rfl, Nat.le_refl _, by unfold maxLen; omega, by simp, fun _ => ⟨_, 0, rfl, by simp, fun j u hu => ?_⟩⟩
  rw [E.flat_sing] at hu
  have h := (MapKept.heap_alloc w (.cells (E.c x).toArray e)).1
  rw [Nat.zero_add]
  simp only [World.cell?, h]
  rw [← hu]
  simp
end Go.Proofs.Ythjcmagionaepaa.Kit

namespace Go.Proofs.Ythjcmagionaepaa
open Go.RowKit Kit
set_option linter.unusedVariables false

/-- Of the old blocks only q turned. -/
structure Turn1 (q : Nat) (w w' : World) : Prop where
  os : w'.os = w.os
  tape : w'.tape = w.tape
  output : w'.output = w.output
  size : w.heap.size ≤ w'.heap.size
  block : ∀ k, k < w.heap.size → k ≠ q → w'.heap[k]? = w.heap[k]?
theorem Turn1.refl (q : Nat) (w : World) : Turn1 q w w := ⟨rfl, rfl, rfl, Nat.le_refl _, fun _ _ _ => rfl⟩
theorem Turn1.trans {q : Nat} {w w1 w2 : World} (h : Turn1 q w w1) (k : Turn1 q w1 w2) : Turn1 q w w2 :=
  ⟨k.os.trans h.os, k.tape.trans h.tape, k.output.trans h.output, Nat.le_trans h.size k.size, fun i h1 h2 => (k.block i (Nat.lt_of_lt_of_le h1 h.size) h2).trans (h.block i h1 h2)⟩
theorem turn1_below {q : Nat} {w w' : World} (h : Below w.heap.size w w') : Turn1 q w w' := ⟨h.os, h.tape, h.output, h.size, fun k h1 _ => h.block k h1⟩
theorem turn1_set (q : Nat) (w : World) (o : Nat) (v : Value) : Turn1 q w (w.setCell ⟨q, o, none⟩ v) := ⟨rfl, rfl, rfl, by simp [World.setCell], fun k _ h2 => Below.heap_setCell _ _ _ k h2⟩
theorem Turn1.below {q B : Nat} {w0 w w' : World} (h : Turn1 q w w') (h0 : Below B w0 w) (hB : B ≤ w.heap.size) (hq : B ≤ q) : Below B w0 w' :=
  ⟨h.os.trans h0.os, h.tape.trans h0.tape, h.output.trans h0.output, Nat.le_trans h0.size h.size, fun k hk => (h.block k (by omega) (by omega)).trans (h0.block k hk)⟩
theorem blk_lt {w : World} {g : Nat} {o : Obj} (h : w.heap[g]? = some o) : g < w.heap.size := (Array.getElem?_eq_some_iff.1 h).1
theorem blk_below {w w' : World} {g : Nat} {o : Obj} (hb : Below w.heap.size w w') (h : w.heap[g]? = some o) : w'.heap[g]? = some o := (hb.block g (blk_lt h)).trans h
theorem blk_turn {w w' : World} {q g : Nat} {o : Obj} (ht : Turn1 q w w') (h : w.heap[g]? = some o) (hg : g ≠ q) : w'.heap[g]? = some o := (ht.block g (blk_lt h) hg).trans h
theorem cell_lt9 {w : World} {g j : Nat} {x : Value} (h : w.cell? ⟨g, j, none⟩ = some x) : g < w.heap.size := by
  by_cases hb : g < w.heap.size
  · exact hb
  · have : w.heap[g]? = none := Array.getElem?_eq_none (by omega)
    simp [World.cell?, this] at h
theorem blk_cell {w : World} {g j : Nat} {cs : Array Value} {t : TypeId} {x : Value} (h : w.heap[g]? = some (.cells cs t)) (hj : cs[j]? = some x) : w.cell? ⟨g, j, none⟩ = some x := by
  simp only [World.cell?, h]; exact hj
theorem blk_frozen {w : World} {g : Nat} {cs : Array Value} {t : TypeId} (h : w.heap[g]? = some (.cells cs t)) : ∀ j, w.frozen? ⟨g, j, none⟩ = false := by
  intro j
  simp [World.frozen?, h]
theorem bel_newG (w : World) (o : Obj) : Below w.heap.size w (w.alloc o) := (Below.refl _ _).alloc (Nat.le_refl _) _
theorem bel_tr {w w1 w2 : World} (h : Below w.heap.size w w1) (k : Below w1.heap.size w1 w2) : Below w.heap.size w w2 :=
  ⟨k.os.trans h.os, k.tape.trans h.tape, k.output.trans h.output, Nat.le_trans h.size k.size, fun i hi => (k.block i (Nat.lt_of_lt_of_le hi h.size)).trans (h.block i hi)⟩
/-- Behind an append onto a row of the call's own. -/
theorem row_kept {α : Type} {E : Enc α} {w wr W w' : World} {base : Nat} {e : TypeId} {v : Value} {xs : List α} (hr : RowE E wr base e v xs) (hb : Below wr.heap.size wr W) (hg : W.grownBy w' v.ownBlock) : (∀ g o, wr.heap.size ≤ g → W.heap[g]? = some o → w'.heap[g]? = some o) ∧ (Below base w wr → base ≤ wr.heap.size → Below base w w') := by
  have hl : ∀ j, v.ownBlock = some j → base ≤ j ∧ j < wr.heap.size := fun j hj => by unfold RowE at hr; exact hr.lt j hj
  refine ⟨fun g o h1 h2 => ?_, fun h3 h4 => ?_⟩
  · rw [← h2]
    refine hg.block g (blk_lt h2) fun e => ?_
    have := hl g e.symm
    omega
  · have h5 := hb.size
    exact ⟨hg.os.trans (hb.os.trans h3.os), hg.tape.trans (hb.tape.trans h3.tape), hg.output.trans (hb.output.trans h3.output), Nat.le_trans h3.size (Nat.le_trans h5 hg.size), fun k hk => by
      rw [hg.block k (by omega) (fun e => by have := hl k e.symm; omega), hb.block k (by omega), h3.block k hk]⟩
/-- A row of the call's own stays while an older block turns. -/
theorem rowE_set {α : Type} {E : Enc α} {w : World} {base q : Nat} {e : TypeId} {v : Value} {xs : List α} (h : RowE E w base e v xs) (hq : q < base) (j : Nat) (x : Value) : RowE E (w.setCell ⟨q, j, none⟩ x) base e v xs := by
  obtain ⟨h1, h2⟩ := h
  refine ⟨h1, ?_⟩
  rcases h2 with h2 | ⟨g, cap, cur, hv, hg, hh, r⟩
  · exact .inl h2
  · exact .inr ⟨g, cap, cur, hv, hg, by rw [Below.heap_setCell _ _ _ g (by show g ≠ q; omega)]; exact hh, r⟩
theorem setCell_blk {w : World} {g j : Nat} {cs : Array Value} {t : TypeId} (h : w.heap[g]? = some (.cells cs t)) (x : Value) : (w.setCell ⟨g, j, none⟩ x).heap[g]? = some (.cells (cs.setIfInBounds j x) t) := by
  simp [World.setCell, Array.getElem?_modify, h]
end Go.Proofs.Ythjcmagionaepaa

namespace Go.Proofs.Ythjcmagionaepaa
open Go.RowKit Kit
set_option linter.unusedVariables false

theorem flat_set {α : Type} (E : Enc α) : ∀ (xs : List α) (i : Nat) (hi : i < xs.length) (j : Nat) (x : Value) (y : α), j < E.k → E.c y = (E.c xs[i]).set j x → E.flat (xs.set i y) = (E.flat xs).set (i * E.k + j) x
  | z :: xs, 0, _, j, x, y, hj, h => by
    unfold Enc.flat
    rw [List.set_cons_zero, List.flatMap_cons, List.flatMap_cons, Nat.zero_mul, Nat.zero_add, List.set_append_left _ _ (by rw [E.len]; exact hj)]
    simp only [List.getElem_cons_zero] at h
    rw [h]
  | z :: xs, i + 1, hi, j, x, y, hj, h => by
    have ih := flat_set E xs i (by simpa using hi) j x y hj (by simpa using h)
    unfold Enc.flat at *
    rw [List.set_cons_succ, List.flatMap_cons, List.flatMap_cons, ih, List.set_append_right _ _ (by rw [E.len, Nat.succ_mul]; omega), E.len]
    congr 2
    rw [Nat.succ_mul]; omega
theorem rowE_form {α : Type} {E : Enc α} {w : World} {base : Nat} {e : TypeId} {v : Value} {xs : List α} (h : RowE E w base e v xs) (h0 : 0 < xs.length) : ∃ g cap, v = .slice (some ⟨g, 0, none⟩) xs.length cap ∧ base ≤ g ∧ g < w.heap.size ∧ (∀ j, w.frozen? ⟨g, j, none⟩ = false) ∧ (∀ (i : Nat) (hi : i < xs.length) (j : Nat) (x : Value), (E.c xs[i])[j]? = some x → w.cell? ⟨g, i * E.k + j, none⟩ = some x) := by
  have hs := h.sees
  obtain ⟨h1, h2⟩ := h
  rcases h2 with ⟨_, h2⟩ | ⟨g, cap, cur, hv, hg, hh, r⟩
  · omega
  · subst hv
    obtain ⟨b, off, e1, _, hb, hc⟩ := hs.cells h0
    injection e1 with e1
    injection e1 with e2 e3
    subst e2 e3
    refine ⟨g, cap, rfl, hg, hb, fun j => by simp [World.frozen?, hh], fun i hi j x hx => ?_⟩
    have := hc i hi j x hx
    rw [Nat.zero_add] at this
    exact this
theorem rowE_put {α : Type} {E : Enc α} {w : World} {base g n cap : Nat} {e : TypeId} {xs : List α} (h : RowE E w base e (.slice (some ⟨g, 0, none⟩) n cap) xs) (i : Nat) (hi : i < xs.length) (j : Nat) (hj : j < E.k) (x : Value) (y : α) (hy : E.c y = (E.c xs[i]).set j x) :
    RowE E (w.setCell ⟨g, i * E.k + j, none⟩ x) base e (.slice (some ⟨g, 0, none⟩) n cap) (xs.set i y) := by
  obtain ⟨h1, h2⟩ := h
  rcases h2 with ⟨h2, _⟩ | ⟨g', cap', cur, hv, hg, hh, h3, h4, h5, h6⟩
  · cases h2
  · injection hv with e1 e2 e3
    injection e1 with e1
    injection e1 with e1
    subst e1 e3
    refine ⟨by rw [E.flat_len, List.length_set], Or.inr ⟨g, cap, cur.setIfInBounds (i * E.k + j) x, by rw [List.length_set, e2], hg, setCell_blk hh x, by rw [List.length_set]; exact h3, h4, by simpa using h5, ?_⟩⟩
    rw [List.length_set, flat_set E xs i hi j x y hj hy, ← h6, Array.toList_setIfInBounds]
    apply List.ext_getElem?
    intro k
    rw [List.getElem?_take, List.getElem?_set, List.getElem?_set, List.getElem?_take]
    have hl : i * E.k + j < xs.length * E.k := by
      have : (i + 1) * E.k ≤ xs.length * E.k := Nat.mul_le_mul_right _ hi
      rw [Nat.succ_mul] at this
      omega
    have hl2 : (List.take (xs.length * E.k) cur.toList).length = xs.length * E.k := by
      rw [h6, E.flat_len]
    by_cases hk : i * E.k + j = k
    · subst hk
      rw [if_pos hl, if_pos rfl, if_pos rfl, hl2]
      have : i * E.k + j < cur.toList.length := by
        have h7 : xs.length * E.k ≤ cap * E.k := Nat.mul_le_mul_right _ h3
        rw [Array.length_toList, h5]; omega
      rw [if_pos this, if_pos hl]
    · rw [if_neg hk, if_neg hk]
/-- What stands below the row stays. -/
theorem set_below {w w' : World} {B g o : Nat} {x : Value} (h : Below B w w') (hg : B ≤ g) : Below B w (w'.setCell ⟨g, o, none⟩ x) := h.setCell hg _
end Go.Proofs.Ythjcmagionaepaa

namespace Go.Proofs.Ythjcmagionaepaa.Kit
open Go.ChangeShapes Go.WideShapes Go.ChangeAt Go.RowKit
set_option linter.unusedVariables false
set_option maxRecDepth 4000 in
theorem wp_appE {α : Type} {E : Enc α} {P : Program} {T e : TypeId} {z : Value} {bytes : Nat} (hT : P.underlying T = some (.slice e)) (hI : (P.info? e).map (fun i => (i.zero, i.size, i.bytes)) = some (some z, E.k, bytes)) (hzc : z.cells.size = E.k) {o : Oper} {a : Act} {K : Act → World → Prop} {Q : Exit → Act → World → Prop} {w : World} (s x : Operand)
    (ho : o.op = .call { callee := .builtin .append, args := #[s, x], argTypes := #[T, T] }) (base : Nat) (v : Value) (xs : List α) (hs : a.eval s = v) (hown : RowE E w base e v xs)
    (y : Value) (news : List α) (hx : a.eval x = y) (hv : SeesE E w y news) (hm : xs.length + news.length ≤ maxLen) (hlen : (xs.length + news.length) * bytes ≤ 140737488355328) (hbase : base ≤ w.heap.size)
    (h : ∀ v' w', RowE E w' base e v' (xs ++ news) → w.grownBy w' v.ownBlock → K (a.put o.dst v') w') : o.wp P a w K Q := by
  obtain ⟨i0, hi, hz0, hz1, hz2⟩ := info_partsV hI
  obtain ⟨ao, cap, rfl, h1, h2, h3, h4⟩ := hv
  cases ao with
  | none =>
    have hc := h3 rfl
    have hn : news = [] := List.eq_nil_of_length_eq_zero (by omega)
    subst hn
    subst hc
    have hrun := run_append_owned_none (P := P) (w := w) base T o.type e i0 E.k hT hi v xs.length (E.flat xs) hown
    have hk := h v w (by rw [List.append_nil]; exact hown) ⟨rfl, rfl, rfl, Nat.le_refl _, fun _ _ _ => rfl⟩
    simp only [List.length_nil] at hx
    unfold Oper.wp
    simp [execOp, ho, resolve, invoke, builtin, hs, hx, hrun, Result.andThen]
    exact hk
  | some ad =>
    refine wp_append_own w s x T ho base e i0 z E.k bytes hT hi hz0 hz1 hz2 hzc E.pos v xs.length (E.flat xs) hs hown ad news.length cap (E.flat news) hx (E.flat_len news) ?_ (E.flat_one news) hm hlen hbase ?_
    · intro j u hj
      have hj' : j < (E.flat news).length := (List.getElem?_eq_some_iff.1 hj).1
      have h0 : 0 < news.length := by
        rw [E.flat_len] at hj'
        cases hn : news.length with
        | zero => rw [hn, Nat.zero_mul] at hj'; omega
        | succ n => omega
      obtain ⟨b, off, e2, _, hh⟩ := h4 h0
      cases e2
      rw [Addr.add_lit]
      exact hh j u hj
    · intro v' w' k1 k2 _
      refine h v' w' ?_ k2
      unfold RowE
      rw [List.length_append, E.flat_app]; exact k1
theorem step_appE {α : Type} {E : Enc α} {P : Program} {T e : TypeId} {z : Value} {bytes : Nat} (hT : P.underlying T = some (.slice e)) (hI : (P.info? e).map (fun i => (i.zero, i.size, i.bytes)) = some (some z, E.k, bytes)) (hzc : z.cells.size = E.k) {ops : Array Oper} {o : Oper} {a : Act} {K : Act → World → Prop} {Q : Exit → Act → World → Prop} {F : Prop} {w : World} (hgd : o.guard = none) (s x : Operand)
    (ho : o.op = .call { callee := .builtin .append, args := #[s, x], argTypes := #[T, T] }) (base : Nat) (v : Value) (xs : List α) (hs : a.eval s = v) (hown : RowE E w base e v xs)
    (y : Value) (news : List α) (hx : a.eval x = y) (hv : SeesE E w y news) (hm : xs.length + news.length ≤ maxLen) (hlen : (xs.length + news.length) * bytes ≤ 140737488355328) (hbase : base ≤ w.heap.size)
    (h : ∀ v' w', RowE E w' base e v' (xs ++ news) → w.grownBy w' v.ownBlock → K (a.put o.dst v') w') : if Region.wanted o (yielded ops a.tmps) = true then Oper.wp P o a w K Q else F := by
  have hw : Region.wanted o (yielded ops a.tmps) = true := by simp [Region.wanted, hgd]
  rw [if_pos hw]
  exact wp_appE hT hI hzc s x ho base v xs hs hown y news hx hv hm hlen hbase h
/-- The literal of no element. -/
theorem rowE_empty {α : Type} (E : Enc α) (w : World) (e : TypeId) (base H : Nat) (hH : w.heap.size = H) (hb : base ≤ w.heap.size) : RowE E (w.alloc (.cells #[] e)) base e (.slice (some ⟨H, 0, none⟩) 0 0) [] := by
  subst hH
  have := World.ownsRow_lit (size := E.k) (e := e) (base := base) w #[] 0 hb (by simp) (by simp)
  exact this
end Go.Proofs.Ythjcmagionaepaa.Kit

namespace Go.Proofs.Ythjcmagionaepaa
open Go.RowKit Kit
set_option linter.unusedVariables false

/-- From w to w' only the old blocks of F turned; what F has become lies in F or in new blocks. -/
structure TurnF (F F' : Nat → Prop) (w w' : World) : Prop where
  os : w'.os = w.os
  tape : w'.tape = w.tape
  output : w'.output = w.output
  size : w.heap.size ≤ w'.heap.size
  block : ∀ k, k < w.heap.size → ¬ F k → w'.heap[k]? = w.heap[k]?
  fresh : ∀ k, F' k → F k ∨ w.heap.size ≤ k
theorem turnF_below {F : Nat → Prop} {w w' : World} (h : Below w.heap.size w w') : TurnF F F w w' := ⟨h.os, h.tape, h.output, h.size, fun k hk _ => h.block k hk, fun k hk => .inl hk⟩
theorem TurnF.trans {F F1 F2 : Nat → Prop} {w w1 w2 : World} (h : TurnF F F1 w w1) (k : TurnF F1 F2 w1 w2) : TurnF F F2 w w2 :=
  ⟨k.os.trans h.os, k.tape.trans h.tape, k.output.trans h.output, Nat.le_trans h.size k.size,
   fun i hi h1 => (k.block i (Nat.lt_of_lt_of_le hi h.size) (fun e => (h.fresh i e).elim h1 (by omega))).trans (h.block i hi h1),
   fun i hi => (k.fresh i hi).elim (fun e => h.fresh i e) (fun e => .inr (Nat.le_trans h.size e))⟩
theorem TurnF.below {F F' : Nat → Prop} {B : Nat} {w0 w w' : World} (h : TurnF F F' w w') (h0 : Below B w0 w) (hB : B ≤ w.heap.size) (hF : ∀ k, F k → B ≤ k) : Below B w0 w' :=
  ⟨h.os.trans h0.os, h.tape.trans h0.tape, h.output.trans h0.output, Nat.le_trans h0.size h.size, fun k hk => (h.block k (by omega) (fun e => by have := hF k e; omega)).trans (h0.block k hk)⟩
theorem TurnF.kept {F F' : Nat → Prop} {w w' : World} {k : Nat} {o : Obj} (h : TurnF F F' w w') (hk : w.heap[k]? = some o) (hF : ¬ F k) : w'.heap[k]? = some o := (h.block k (blk_lt hk) hF).trans hk
theorem TurnF.wider {F F' G : Nat → Prop} {w w' : World} (h : TurnF F F' w w') : TurnF (fun k => F k ∨ G k) (fun k => F' k ∨ G k) w w' :=
  ⟨h.os, h.tape, h.output, h.size, fun k hk hF => h.block k hk (fun e => hF (.inl e)), fun k hk => hk.elim (fun e => (h.fresh k e).imp .inl id) (fun e => .inl (.inr e))⟩
theorem TurnF.widerR {F F' G : Nat → Prop} {w w' : World} (h : TurnF F F' w w') : TurnF (fun k => G k ∨ F k) (fun k => G k ∨ F' k) w w' :=
  ⟨h.os, h.tape, h.output, h.size, fun k hk hF => h.block k hk (fun e => hF (.inr e)), fun k hk => hk.elim (fun e => .inl (.inl e)) (fun e => (h.fresh k e).imp .inr id)⟩
/-- The block of a row of values, of structs. -/
theorem rowV_obj {w : World} {B k : Nat} {e : TypeId} {v : Value} {xs : List Value} (h : RowV w B e v xs) (hk : v.ownBlock = some k) : ∃ cur, w.heap[k]? = some (.cells cur e) := by
  obtain ⟨_, h2⟩ := h
  rcases h2 with ⟨rfl, _⟩ | ⟨g, cap, cur, rfl, _, hh, _⟩
  · simp [Value.ownBlock] at hk
  · have hk : some g = some k := hk
    injection hk with hk
    subst hk
    exact ⟨_, hh⟩
theorem rowE_obj {α : Type} {E : Enc α} {w : World} {B k : Nat} {e : TypeId} {v : Value} {xs : List α} (h : RowE E w B e v xs) (hk : v.ownBlock = some k) : ∃ cur, w.heap[k]? = some (.cells cur e) := by
  obtain ⟨_, h2⟩ := h
  rcases h2 with ⟨rfl, _⟩ | ⟨g, cap, cur, rfl, _, hh, _⟩
  · simp [Value.ownBlock] at hk
  · have hk : some g = some k := hk
    injection hk with hk
    subst hk
    exact ⟨_, hh⟩
theorem rowV_ge {w : World} {B k : Nat} {e : TypeId} {v : Value} {xs : List Value} (h : RowV w B e v xs) (hk : v.ownBlock = some k) : B ≤ k := by
  obtain ⟨_, h2⟩ := h
  rcases h2 with ⟨rfl, _⟩ | ⟨g, cap, cur, rfl, hg, hh, _⟩
  · simp [Value.ownBlock] at hk
  · have hk : some g = some k := hk
    injection hk with hk
    omega
/-- A row stays where its block does. -/
theorem rowV_stay {w w' : World} {B : Nat} {e : TypeId} {v : Value} {xs : List Value} (h : RowV w B e v xs) (hb : ∀ k, v.ownBlock = some k → w'.heap[k]? = w.heap[k]?) : RowV w' B e v xs := by
  obtain ⟨h1, h2⟩ := h
  refine ⟨h1, ?_⟩
  rcases h2 with h2 | ⟨g, cap, cur, rfl, hg, hh, r⟩
  · exact .inl h2
  · exact .inr ⟨g, cap, cur, rfl, hg, (hb g rfl).trans hh, r⟩
theorem rowE_stay {α : Type} {E : Enc α} {w w' : World} {B : Nat} {e : TypeId} {v : Value} {xs : List α} (h : RowE E w B e v xs) (hb : ∀ k, v.ownBlock = some k → w'.heap[k]? = w.heap[k]?) : RowE E w' B e v xs := by
  obtain ⟨h1, h2⟩ := h
  refine ⟨h1, ?_⟩
  rcases h2 with h2 | ⟨g, cap, cur, rfl, hg, hh, r⟩
  · exact .inl h2
  · exact .inr ⟨g, cap, cur, rfl, hg, (hb g rfl).trans hh, r⟩
theorem obj_ne {w : World} {a b : Nat} {c d : Array Value} {s t : TypeId} (ha : w.heap[a]? = some (.cells c s)) (hb : w.heap[b]? = some (.cells d t)) (h : s ≠ t) : a ≠ b := by
  intro e
  subst e
  rw [ha] at hb
  injection hb with hb
  injection hb with _ hb
  exact h hb
end Go.Proofs.Ythjcmagionaepaa

namespace Go.Proofs.Ythjcmagionaepaa
open Go.RowKit Kit
set_option linter.unusedVariables false

theorem drewNB {B : Nat} {a w : World} (h : Below B a w) (n : Nat) : Below B a (w.drewN n) := ⟨h.os, h.tape, h.output, h.size, h.block⟩
theorem bel2v {w w1 w2 : World} (h : Below w.heap.size w w1) (k : Below w1.heap.size w1 w2) : Below w.heap.size w w2 := bel_tr h k
theorem bel_drewL (w : World) : Below w.heap.size w w.drew := (Below.refl _ w).drew
theorem rowV_some {w : World} {base : Nat} {e : TypeId} {v : Value} {xs : List Value} (h : RowV w base e v xs) (h0 : 0 < xs.length) : ∃ g cap, v = .slice (some ⟨g, 0, none⟩) xs.length cap ∧ base ≤ g := by
  unfold RowV at h
  obtain ⟨h1, h2⟩ := h
  rcases h2 with ⟨h2, h3⟩ | ⟨g, cap, cur, hv, hg, hh, hn, hm, _, _⟩
  · omega
  · exact ⟨g, cap, hv, hg⟩
theorem rowV_at {w : World} {base g n cap : Nat} {e : TypeId} {xs : List Value} (h : RowV w base e (.slice (some ⟨g, 0, none⟩) n cap) xs) (hn : xs.length = n) {i : Nat} {x : Value} (hx : xs[i]? = some x) : w.cell? ⟨g, i, none⟩ = some x := by
  unfold RowV at h
  subst hn
  have hi := (List.getElem?_eq_some_iff.1 hx).1
  rw [h.cellAt i (by omega)]
  exact hx
theorem rowV_stored {w : World} {base g n cap : Nat} {e : TypeId} {xs : List Value} (h : RowV w base e (.slice (some ⟨g, 0, none⟩) n cap) xs) (hn : xs.length = n) (j : Nat) (u : Value) : RowV (w.setCell ⟨g, j, none⟩ u) base e (.slice (some ⟨g, 0, none⟩) n cap) (xs.set j u) := by
  unfold RowV at *
  subst hn
  have := h.stored j u
  rw [List.length_set]; exact this.1
theorem rowV_frozen {w : World} {base g n cap : Nat} {e : TypeId} {xs : List Value} (h : RowV w base e (.slice (some ⟨g, 0, none⟩) n cap) xs) (hn : xs.length = n) (j : Nat) : w.frozen? ⟨g, j, none⟩ = false := by
  unfold RowV at h; subst hn; exact h.frozenAt j
/-- Texts as values. -/
def strs (l : List ByteArray) : List Value := l.map Value.string
theorem strs_len (l : List ByteArray) : (strs l).length = l.length := by simp [strs]
theorem strs_at (l : List ByteArray) (k : Nat) (h : k < l.length) : (strs l)[k]? = some (.string (l.getD k ⟨#[]⟩)) := by
  simp [strs, List.getD, h]
theorem bytes_eq (a b : ByteArray) : (a.toList == b.toList) = decide (a = b) := by
  by_cases h : a = b
  · subst h; simp
  · have : ¬ a.toList = b.toList := fun e => h (ByteArray.ext (by
      have h1 := congrArg List.toArray e
      simpa [ByteArray.toList_eq] using h1))
    rw [beq_eq_false_iff_ne.2 this]; simp [h]
theorem not_empty {s : ByteArray} (h : ¬ s = ⟨#[]⟩) : ¬ s.toList = [] := fun e => h (ByteArray.ext (by
  have h1 := congrArg List.toArray e
  simpa [ByteArray.toList_eq] using h1))
theorem toList_eq_iff (q : ByteArray) (l : List UInt8) : (q.toList = l) = (q = ⟨l.toArray⟩) := by
  apply propext
  constructor
  · intro h
    apply ByteArray.ext
    have h1 := congrArg List.toArray h
    simpa [ByteArray.toList_eq] using h1
  · intro h
    subst h
    simp [ByteArray.toList_eq]
/-- Numbers as values. -/
def iV (l : List Int) : List Value := l.map (Value.int .i64)
theorem iV_len (l : List Int) : (iV l).length = l.length := by simp [iV]
theorem iV_at (l : List Int) (i : Nat) (h : i < l.length) : (iV l)[i]? = some (.int .i64 (l.getD i 0)) := by
  simp [iV, List.getD, h]
theorem getD9 {l : List Int} {i : Nat} (h : i < l.length) : l.getD i 0 = l[i] := by simp [List.getD, h]
end Go.Proofs.Ythjcmagionaepaa

namespace Go.Proofs.Ythjcmagionaepaa.Kit
open Go.ChangeShapes Go.WideShapes Go.ChangeAt Go.RowKit
set_option linter.unusedVariables false

theorem heap_setCells_other (g : Nat) : ∀ (vs : List Value) (o : Nat) (w : World) (k : Nat), k ≠ g → (w.setCells g o vs).heap[k]? = w.heap[k]?
  | [], _, _, _, _ => rfl
  | v :: r, o, w, k, h => by rw [World.setCells, heap_setCells_other g r _ _ k h]; exact Below.heap_setCell _ _ _ k h
theorem size_setCells (g : Nat) : ∀ (vs : List Value) (o : Nat) (w : World), (w.setCells g o vs).heap.size = w.heap.size
  | [], _, _ => rfl
  | v :: r, o, w => by rw [World.setCells, size_setCells g r]; simp [World.setCell]
theorem rest_setCells (g : Nat) : ∀ (vs : List Value) (o : Nat) (w : World), (w.setCells g o vs).os = w.os ∧ (w.setCells g o vs).tape = w.tape ∧ (w.setCells g o vs).output = w.output
  | [], _, _ => ⟨rfl, rfl, rfl⟩
  | v :: r, o, w => by rw [World.setCells]; exact rest_setCells g r _ _
theorem grown_setCells (g : Nat) (vs : List Value) (o : Nat) (w : World) : w.grownBy (w.setCells g o vs) (some g) :=
  ⟨(rest_setCells g vs o w).1, (rest_setCells g vs o w).2.1, (rest_setCells g vs o w).2.2, Nat.le_of_eq (size_setCells g vs o w).symm, fun k _ hne => heap_setCells_other g vs o w k (fun e => hne (by rw [e]))⟩
theorem heap_setCells (g : Nat) (e : TypeId) : ∀ (vs : List Value) (o : Nat) (w : World) (cur : Array Value), w.heap[g]? = some (.cells cur e) →
    ∃ cur', (w.setCells g o vs).heap[g]? = some (.cells cur' e) ∧ cur'.size = cur.size ∧ ∀ j, cur'.toList[j]? = if o ≤ j ∧ j < o + vs.length ∧ j < cur.size then vs[j - o]? else cur.toList[j]?
  | [], o, w, cur, h => ⟨cur, h, rfl, fun j => by rw [if_neg (by simp; omega)]⟩
  | v :: r, o, w, cur, h => by
    obtain ⟨c, h1, h2, h3⟩ := heap_setCells g e r (o + 1) (w.setCell ⟨g, o, none⟩ v) _ (setCell_blk h v)
    refine ⟨c, h1, by rw [h2]; simp, fun j => ?_⟩
    rw [h3 j]
    simp only [Array.size_setIfInBounds, List.length_cons, Array.toList_setIfInBounds]
    by_cases h4 : o + 1 ≤ j ∧ j < o + 1 + r.length ∧ j < cur.size
    · rw [if_pos h4, if_pos (by omega), show j - o = (j - (o + 1)) + 1 by omega, List.getElem?_cons_succ]
    · rw [if_neg h4, List.getElem?_set]
      by_cases h5 : o = j
      · subst h5
        by_cases h6 : o < cur.size
        · rw [if_pos rfl, if_pos (by simpa using h6), if_pos (by omega), Nat.sub_self, List.getElem?_cons_zero]
        · rw [if_pos rfl, if_neg (by simpa using h6), if_neg (by omega)]
          exact (List.getElem?_eq_none (by simp; omega)).symm
      · rw [if_neg h5, if_neg (by omega)]
theorem rowE_mk {α : Type} {E : Enc α} {w : World} {B g n cap : Nat} {e : TypeId} {xs : List α} {cur : Array Value} (h : w.heap[g]? = some (.cells cur e)) (hB : B ≤ g) (hn : n = xs.length) (hc : n ≤ cap) (hm : cap ≤ maxLen) (hs : cur.size = cap * E.k)
    (ht : cur.toList.take (n * E.k) = E.flat xs) : RowE E w B e (.slice (some ⟨g, 0, none⟩) n cap) xs := by
  subst hn
  exact ⟨E.flat_len xs, .inr ⟨g, cap, cur, rfl, hB, h, hc, hm, hs, ht⟩⟩
theorem rowE_un {α : Type} {E : Enc α} {w : World} {B g n cap : Nat} {e : TypeId} {xs : List α} (h : RowE E w B e (.slice (some ⟨g, 0, none⟩) n cap) xs) :
    B ≤ g ∧ n = xs.length ∧ n ≤ cap ∧ cap ≤ maxLen ∧ g < w.heap.size ∧ ∃ cur, w.heap[g]? = some (.cells cur e) ∧ cur.size = cap * E.k ∧ cur.toList.take (n * E.k) = E.flat xs := by
  obtain ⟨_, h2⟩ := h
  rcases h2 with ⟨h2, _⟩ | ⟨g', cap', cur, hv, hg, hh, h3, h4, h5, h6⟩
  · cases h2
  · injection hv with e1 e2 e3
    injection e1 with e1
    injection e1 with e1
    subst e1 e3
    exact ⟨hg, e2, by omega, h4, blk_lt hh, cur, hh, h5, by rw [e2]; exact h6⟩
theorem RowE.take {α : Type} {E : Enc α} {w : World} {B g n cap : Nat} {e : TypeId} {xs : List α} (h : RowE E w B e (.slice (some ⟨g, 0, none⟩) n cap) xs) (i : Nat) (hi : i ≤ n) : RowE E w B e (.slice (some ⟨g, 0, none⟩) i cap) (xs.take i) := by
  obtain ⟨h1, h2, h3, h4, _, cur, h5, h6, h7⟩ := rowE_un h
  refine rowE_mk h5 h1 (by rw [List.length_take]; omega) (by omega) h4 h6 ?_
  rw [E.flat_take, ← h7, List.take_take, Nat.min_eq_left (Nat.mul_le_mul_right _ hi)]
/-- What a row's slice from i on shows. -/
theorem RowE.from {α : Type} {E : Enc α} {w : World} {B g n cap : Nat} {e : TypeId} {xs : List α} (h : RowE E w B e (.slice (some ⟨g, 0, none⟩) n cap) xs) (i : Nat) (hi : i ≤ n) : SeesE E w (.slice (some ⟨g, i * E.k, none⟩) (n - i) (cap - i)) (xs.drop i) := by
  have h2 := (rowE_un h).2.1
  have := h.sees.drop i (by omega)
  rw [Nat.zero_add] at this
  exact this
/-- Elements laid over a row from its i-th on. -/
theorem rowE_over {α : Type} {E : Enc α} {w : World} {B g n cap : Nat} {e : TypeId} {xs : List α} (h : RowE E w B e (.slice (some ⟨g, 0, none⟩) n cap) xs) (i : Nat) (ys : List α) (hi : i ≤ n) (hc : i + ys.length ≤ cap) (N : Nat) (hN : N = max n (i + ys.length)) :
    RowE E (w.setCells g (i * E.k) (E.flat ys)) B e (.slice (some ⟨g, 0, none⟩) N cap) (xs.take i ++ ys ++ xs.drop (i + ys.length)) := by
  obtain ⟨h1, h2, h3, h4, _, cur, h5, h6, h7⟩ := rowE_un h
  obtain ⟨c, k1, k2, k3⟩ := heap_setCells g e (E.flat ys) (i * E.k) w cur h5
  refine rowE_mk k1 h1 (by simp; omega) (by omega) h4 (by rw [k2, h6]) ?_
  apply List.ext_getElem?
  intro j
  have hx : ∀ j, j < n * E.k → cur.toList[j]? = (E.flat xs)[j]? := fun j hj => by rw [← h7, List.getElem?_take, if_pos hj]
  have m1 : i * E.k ≤ n * E.k := Nat.mul_le_mul_right _ hi
  have m2 : (i + ys.length) * E.k ≤ cap * E.k := Nat.mul_le_mul_right _ hc
  have m3 : n * E.k ≤ cap * E.k := Nat.mul_le_mul_right _ h3
  have m4 : n * E.k ≤ N * E.k := Nat.mul_le_mul_right _ (by omega)
  have m5 : (i + ys.length) * E.k ≤ N * E.k := Nat.mul_le_mul_right _ (by omega)
  have m6 : N * E.k = n * E.k ∨ N * E.k = (i + ys.length) * E.k := by
    rcases Nat.le_total n (i + ys.length) with h | h
    · right; rw [hN, Nat.max_eq_right h]
    · left; rw [hN, Nat.max_eq_left h]
  rw [Nat.add_mul] at m2 m5 m6
  have l1 : (E.flat (xs.take i)).length = i * E.k := by rw [E.flat_len, List.length_take]; congr 1; omega
  have l2 : (E.flat ys).length = ys.length * E.k := E.flat_len ys
  have l3 : (E.flat xs).length = n * E.k := by rw [E.flat_len, h2]
  rw [List.getElem?_take, E.flat_app, E.flat_app]
  split
  · rename_i hj
    rw [k3 j]
    by_cases c1 : j < i * E.k
    · rw [if_neg (by omega), List.getElem?_append_left (by rw [List.length_append]; omega), List.getElem?_append_left (by omega), hx j (by omega), E.flat_take, List.getElem?_take, if_pos c1]
    · by_cases c2 : j < i * E.k + ys.length * E.k
      · rw [if_pos (by omega), List.getElem?_append_left (by rw [List.length_append]; omega), List.getElem?_append_right (by omega), l1]
      · rw [if_neg (by omega), List.getElem?_append_right (by rw [List.length_append]; omega), List.length_append, l1, l2, hx j (by omega), E.flat_drop, List.getElem?_drop, Nat.add_mul]
        congr 1
        omega
  · rename_i hj
    refine (List.getElem?_eq_none ?_).symm
    rw [List.length_append, List.length_append, l1, l2, E.flat_drop, List.length_drop, l3, Nat.add_mul]
    omega
/-- Cells behind a row's elements. -/
theorem rowE_spare {α : Type} {E : Enc α} {w : World} {B g n cap : Nat} {e : TypeId} {xs : List α} (h : RowE E w B e (.slice (some ⟨g, 0, none⟩) n cap) xs) (o : Nat) (vs : List Value) (ho : n * E.k ≤ o) :
    RowE E (w.setCells g o vs) B e (.slice (some ⟨g, 0, none⟩) n cap) xs := by
  obtain ⟨h1, h2, h3, h4, _, cur, h5, h6, h7⟩ := rowE_un h
  obtain ⟨c, k1, k2, k3⟩ := heap_setCells g e vs o w cur h5
  refine rowE_mk k1 h1 h2 h3 h4 (by rw [k2, h6]) ?_
  rw [← h7]
  apply List.ext_getElem?
  intro j
  rw [List.getElem?_take, List.getElem?_take]
  split
  · rw [k3 j, if_neg (by omega)]
  · rfl
theorem rowE_cell {α : Type} {E : Enc α} {w : World} {B g n cap : Nat} {e : TypeId} {xs : List α} (h : RowE E w B e (.slice (some ⟨g, 0, none⟩) n cap) xs) (j : Nat) (hj : j < cap * E.k) : (w.cell? ⟨g, j, none⟩).isSome = true ∧ w.frozen? ⟨g, j, none⟩ = false := by
  obtain ⟨_, _, _, _, _, cur, h5, h6, _⟩ := rowE_un h
  refine ⟨?_, blk_frozen h5 j⟩
  rw [blk_cell h5 (x := cur[j]'(by omega)) (Array.getElem?_eq_getElem (by omega))]
  rfl
theorem seesE_at {α : Type} (E : Enc α) {w : World} {e : TypeId} {x : α} {H : Nat} (h : w.heap[H]? = some (.cells (E.c x).toArray e)) : SeesE E w (.slice (some ⟨H, 0, none⟩) 1 1) [x] := by
  refine ⟨_, 1, rfl, Nat.le_refl _, by unfold maxLen; omega, by simp, fun _ => ⟨_, 0, rfl, blk_lt h, fun j u hu => ?_⟩⟩
  rw [E.flat_sing] at hu
  rw [Nat.zero_add]
  simp only [World.cell?, h]
  rw [← hu]
  simp
section
variable {α : Type} {E : Enc α} {P : Program}
theorem run_copyK (w : World) (dT sT ty elem : TypeId) (sz : Nat) (b o dLen dCap : Nat) (a : Addr) (sLen sCap : Nat) (cs : List Value)
    (hu : P.underlying dT = some (.slice elem)) (hs : (P.info? elem).map (·.size) = some sz) (hn : cs.length = Nat.min sLen dLen * sz)
    (hsrc : ∀ j v, cs[j]? = some v → w.cell? (a.add j) = some v) (hc : ∀ j, j < cs.length → (w.cell? ⟨b, o + j, none⟩).isSome = true) (hf : ∀ j, j < cs.length → w.frozen? ⟨b, o + j, none⟩ = false) (h1 : ∀ v ∈ cs, v.oneCell' = true) :
    (Builtin.copy_ #[dT, sT] ty #[.slice (some ⟨b, o, none⟩) dLen dCap, .slice (some a) sLen sCap]).run P w = .ok (goInt (Nat.min sLen dLen)) (w.setCells b o cs) := by
  have hl := run_loadCells_list (P := P) w a cs hsrc
  have hst := run_storeCells_cells (P := P) b o cs 0 w (by simpa using hc) (by simpa using hf) h1
  cases hq : P.info? elem with
  | none => simp [hq] at hs
  | some i =>
    have hi : i.size = sz := by simpa [hq] using hs
    simp [Builtin.copy_, run_underlying hu, Builtin.lenOf, Builtin.firstCells, sizeOf, typeInfo, hq, hi, ← hn, hl, hst]
/-- copy(d[i:], s). -/
theorem run_copyE {w : World} {T e : TypeId} (hT : P.underlying T = some (.slice e)) (hs : (P.info? e).map (·.size) = some E.k) {B g n cap : Nat} {xs : List α} (h : RowE E w B e (.slice (some ⟨g, 0, none⟩) n cap) xs) (i : Nat) (dl dc : Nat) (hi : i + dl ≤ cap)
    (ao : Option Addr) (m c2 : Nat) (ys : List α) (hv : SeesE E w (.slice ao ys.length c2) ys) (hy : Nat.min m dl = ys.length) (ty : TypeId) :
    (Builtin.copy_ #[T, T] ty #[.slice (some ⟨g, i * E.k, none⟩) dl dc, .slice ao m c2]).run P w = .ok (goInt ys.length) (w.setCells g (i * E.k) (E.flat ys)) := by
  obtain ⟨ao', c2', e0, h1, h2, h3, h4⟩ := hv
  injection e0 with e1 _ e2
  subst e1 e2
  have hyl : ys.length ≤ dl := by rw [← hy]; exact Nat.min_le_right _ _
  have hcell : ∀ j, j < (E.flat ys).length → (w.cell? ⟨g, i * E.k + j, none⟩).isSome = true ∧ w.frozen? ⟨g, i * E.k + j, none⟩ = false := fun j hj => rowE_cell h _ (by
    rw [E.flat_len] at hj
    have : (i + ys.length) * E.k ≤ cap * E.k := Nat.mul_le_mul_right _ (by omega)
    rw [Nat.add_mul] at this
    omega)
  cases hys : ys with
  | nil =>
    subst hys
    have hl : ∀ (x : Addr), (loadCells x 0).run P w = .ok #[] w := fun x => by simpa using run_loadCells_list (P := P) w x [] (by simp)
    simp only [List.length_nil] at hy
    cases hq : P.info? e with
    | none => simp [hq] at hs
    | some i0 =>
      cases ao <;> simp [Builtin.copy_, run_underlying hT, Builtin.lenOf, Builtin.firstCells, sizeOf, typeInfo, hq, hy, storeCells, hl, Enc.flat, World.setCells]
  | cons y r =>
    rw [← hys]
    obtain ⟨b, off, e1, _, hh⟩ := h4 (by rw [hys]; simp)
    subst e1
    have := run_copyK (P := P) w T T ty e E.k g (i * E.k) dl dc ⟨b, off, none⟩ m c2 (E.flat ys) hT hs (by rw [hy, E.flat_len]) (fun j v hj => by rw [Addr.add_lit]; exact hh j v hj) (fun j hj => (hcell j hj).1) (fun j hj => (hcell j hj).2) (E.flat_one ys)
    rw [hy] at this
    exact this
theorem wp_copyE {w : World} {T e : TypeId} (hT : P.underlying T = some (.slice e)) (hs : (P.info? e).map (·.size) = some E.k) {o : Oper} {a : Act} {K : Act → World → Prop} {Q : Exit → Act → World → Prop} (d s : Operand)
    (ho : o.op = .call { callee := .builtin .copy, args := #[d, s], argTypes := #[T, T] }) {B g n cap : Nat} {xs : List α} (h : RowE E w B e (.slice (some ⟨g, 0, none⟩) n cap) xs) (i : Nat) (dl dc : Nat) (hi : i + dl ≤ cap) (hin : i ≤ n)
    (hd : a.eval d = .slice (some ⟨g, i * E.k, none⟩) dl dc) (ao : Option Addr) (m c2 : Nat) (hx : a.eval s = .slice ao m c2) (ys : List α) (hv : SeesE E w (.slice ao ys.length c2) ys) (hy : Nat.min m dl = ys.length) (N : Nat) (hN : N = max n (i + ys.length))
    (hK : ∀ w', RowE E w' B e (.slice (some ⟨g, 0, none⟩) N cap) (xs.take i ++ ys ++ xs.drop (i + ys.length)) → w.grownBy w' (some g) → K (a.put o.dst (goInt ys.length)) w') : o.wp P a w K Q := by
  have hr := fun ty => run_copyE (P := P) hT hs h i dl dc hi ao m c2 ys hv hy ty
  have hyl : ys.length ≤ dl := by rw [← hy]; exact Nat.min_le_right _ _
  unfold Oper.wp execOp
  simp only [ho, resolve, invoke, builtin, Sem.run_bind, Sem.run_pure, Result.andThen_ok, List.map_toArray, List.map_cons, List.map_nil, hd, hx, hr]
  exact hK _ (rowE_over h i ys hin (by omega) N hN) (grown_setCells _ _ _ _)
/-- The same, for a walk that takes the run from its context. -/
theorem run_copyW {w : World} {T e : TypeId} (hT : P.underlying T = some (.slice e)) (hs : (P.info? e).map (·.size) = some E.k) {B g n cap : Nat} {xs : List α} (h : RowE E w B e (.slice (some ⟨g, 0, none⟩) n cap) xs) (i : Nat) (dl dc : Nat) (hi : i + dl ≤ cap) (hin : i ≤ n)
    (ao : Option Addr) (m c2 : Nat) (ys : List α) (hv : SeesE E w (.slice ao ys.length c2) ys) (hy : Nat.min m dl = ys.length) (N : Nat) (hN : N = max n (i + ys.length)) :
    ∃ w', (∀ ty, (Builtin.copy_ #[T, T] ty #[.slice (some ⟨g, i * E.k, none⟩) dl dc, .slice ao m c2]).run P w = .ok (goInt ys.length) w') ∧ RowE E w' B e (.slice (some ⟨g, 0, none⟩) N cap) (xs.take i ++ ys ++ xs.drop (i + ys.length)) ∧ w.grownBy w' (some g) :=
  ⟨_, fun ty => run_copyE (P := P) hT hs h i dl dc hi ao m c2 ys hv hy ty, rowE_over h i ys hin (by have hyl : ys.length ≤ dl := by rw [← hy]; exact Nat.min_le_right _ _
                                                                                                    omega) N hN, grown_setCells _ _ _ _⟩
theorem step_copyE {w : World} {T e : TypeId} (hT : P.underlying T = some (.slice e)) (hs : (P.info? e).map (·.size) = some E.k) {ops : Array Oper} {o : Oper} {a : Act} {K : Act → World → Prop} {Q : Exit → Act → World → Prop} {F : Prop} (hgd : o.guard = none) (d s : Operand)
    (ho : o.op = .call { callee := .builtin .copy, args := #[d, s], argTypes := #[T, T] }) {B g n cap : Nat} {xs : List α} (h : RowE E w B e (.slice (some ⟨g, 0, none⟩) n cap) xs) (i : Nat) (dl dc : Nat) (hi : i + dl ≤ cap) (hin : i ≤ n)
    (hd : a.eval d = .slice (some ⟨g, i * E.k, none⟩) dl dc) (ao : Option Addr) (m c2 : Nat) (hx : a.eval s = .slice ao m c2) (ys : List α) (hv : SeesE E w (.slice ao ys.length c2) ys) (hy : Nat.min m dl = ys.length) (N : Nat) (hN : N = max n (i + ys.length))
    (hK : ∀ w', RowE E w' B e (.slice (some ⟨g, 0, none⟩) N cap) (xs.take i ++ ys ++ xs.drop (i + ys.length)) → w.grownBy w' (some g) → K (a.put o.dst (goInt ys.length)) w') : if Region.wanted o (yielded ops a.tmps) = true then Oper.wp P o a w K Q else F := by
  have hw : Region.wanted o (yielded ops a.tmps) = true := by simp [Region.wanted, hgd]
  rw [if_pos hw]
  exact wp_copyE hT hs d s ho h i dl dc hi hin hd ao m c2 hx ys hv hy N hN hK
/-- clear(s[i:j]) behind a row's elements. -/
theorem run_clearE {w : World} {T e : TypeId} {z : Value} (hT : P.underlying T = some (.slice e)) (hz : ∀ w, (zeroValue e).run P w = .ok z w) (hzc : ∀ u ∈ z.cells.toList, u.oneCell' = true) (hzs : z.cells.size = E.k) {B g n cap : Nat} {xs : List α}
    (h : RowE E w B e (.slice (some ⟨g, 0, none⟩) n cap) xs) (i : Nat) (dl dc : Nat) (hi : i + dl ≤ cap) (hin : n ≤ i) :
    ∃ w', (∀ ty, (Builtin.clear_ #[T] ty #[.slice (some ⟨g, i * E.k, none⟩) dl dc]).run P w = .ok (.tuple #[]) w') ∧ RowE E w' B e (.slice (some ⟨g, 0, none⟩) n cap) xs ∧ w.grownBy w' (some g) := by
  cases dl with
  | zero => exact ⟨w, fun ty => by simp [Builtin.clear_, run_underlying hT], h, ⟨rfl, rfl, rfl, Nat.le_refl _, fun _ _ _ => rfl⟩⟩
  | succ m =>
    obtain ⟨L, hL⟩ : ∃ L, L = (Builtin.zeroCells z.cells (m + 1)).toList := ⟨_, rfl⟩
    have hp := E.pos
    have hll : L.length = (m + 1) * E.k := by rw [hL, Array.length_toList]; simp [Builtin.zeroCells, hzs]
    have h1 : ∀ u ∈ L, u.oneCell' = true := by
      intro u hu
      obtain ⟨j, hj, rfl⟩ := List.mem_iff_getElem.1 hu
      have hs0 : 0 < z.cells.size := by omega
      have hmod : j % z.cells.size < z.cells.size := Nat.mod_lt _ hs0
      have : L[j] = z.cells[j % z.cells.size] := by
        simp only [hL, Builtin.zeroCells, Array.getElem_toList, Array.getElem_map, Array.getElem_range]
        rw [getElem!_pos z.cells _ hmod]
      rw [this]
      exact hzc _ (by simp)
    have hcell : ∀ j, j < L.length → (w.cell? ⟨g, i * E.k + j, none⟩).isSome = true ∧ w.frozen? ⟨g, i * E.k + j, none⟩ = false := fun j hj => rowE_cell h _ (by
      rw [hll] at hj
      have : (i + (m + 1)) * E.k ≤ cap * E.k := Nat.mul_le_mul_right _ hi
      rw [Nat.add_mul] at this
      omega)
    have hst := run_storeCells_cells (P := P) g (i * E.k) L 0 w (by simpa using fun j hj => (hcell j hj).1) (by simpa using fun j hj => (hcell j hj).2) h1
    simp only [Nat.add_zero] at hst
    refine ⟨w.setCells g (i * E.k) L, ?_, rowE_spare h _ _ (Nat.mul_le_mul_right _ hin), grown_setCells _ _ _ _⟩
    intro ty
    simp [Builtin.clear_, run_underlying hT, hz, ← hL, hst]
/-- append onto a row's first i elements, where there is room. -/
theorem wp_roomE {w : World} {T e : TypeId} (hT : P.underlying T = some (.slice e)) (hs : (P.info? e).map (·.size) = some E.k) {o : Oper} {a : Act} {K : Act → World → Prop} {Q : Exit → Act → World → Prop} (s x : Operand)
    (ho : o.op = .call { callee := .builtin .append, args := #[s, x], argTypes := #[T, T] }) {B g n cap : Nat} {xs : List α} (h : RowE E w B e (.slice (some ⟨g, 0, none⟩) n cap) xs)
    (hd : a.eval s = .slice (some ⟨g, 0, none⟩) n cap) (sv : Value) (hx : a.eval x = sv) (ys : List α) (hv : SeesE E w sv ys) (hy : n + ys.length ≤ cap)
    (hK : ∀ w', RowE E w' B e (.slice (some ⟨g, 0, none⟩) (n + ys.length) cap) (xs ++ ys) → w.grownBy w' (some g) → K (a.put o.dst (.slice (some ⟨g, 0, none⟩) (n + ys.length) cap)) w') : o.wp P a w K Q := by
  obtain ⟨ao, c2, rfl, h1, h2, h3, h4⟩ := hv
  have hcell : ∀ j, j < (E.flat ys).length → (w.cell? ⟨g, n * E.k + j, none⟩).isSome = true ∧ w.frozen? ⟨g, n * E.k + j, none⟩ = false := fun j hj => rowE_cell h _ (by
    rw [E.flat_len] at hj
    have : (n + ys.length) * E.k ≤ cap * E.k := Nat.mul_le_mul_right _ (by omega)
    rw [Nat.add_mul] at this
    omega)
  have hn := (rowE_un h).2.1
  have hrow := rowE_over h n ys (Nat.le_refl _) hy (n + ys.length) (by omega)
  rw [show xs.take n = xs by rw [hn, List.take_length], show xs.drop (n + ys.length) = [] from List.drop_eq_nil_of_le (by omega), List.append_nil] at hrow
  have hl := E.flat_len ys
  have hone := E.flat_one ys
  cases hq : P.info? e with
  | none => simp [hq] at hs
  | some i0 =>
    have hi : i0.size = E.k := by simpa [hq] using hs
    have hsrc : Src P i0.size T (.slice ao ys.length c2) ys.length (E.flat ys) w := by
      rw [hi]
      by_cases h0 : 0 < ys.length
      · obtain ⟨b, off, e1, _, hh⟩ := h4 h0
        subst e1
        exact Src.ofSlice w hT ⟨b, off, none⟩ ys.length c2 (E.flat ys) hl (fun j u hj => by rw [Addr.add_lit]; exact hh j u hj) hone
      · have : ys = [] := List.eq_nil_of_length_eq_zero (by omega)
        subst this
        cases ao with
        | none => exact Src.ofNil w hT c2
        | some ad => exact Src.ofSlice w hT ad 0 c2 [] (by simp) (by simp) (by simp)
    have hr := fun ty => run_append_room_src (P := P) w T T ty e i0 hT hq g 0 n cap (.slice ao ys.length c2) ys.length (E.flat ys) hsrc hy (by rw [hi, Nat.zero_add]; exact fun j hj => (hcell j hj).1) (by rw [hi, Nat.zero_add]; exact fun j hj => (hcell j hj).2)
    rw [hi, Nat.zero_add] at hr
    unfold Oper.wp execOp
    simp only [ho, resolve, invoke, builtin, Sem.run_bind, Sem.run_pure, Result.andThen_ok, List.map_toArray, List.map_cons, List.map_nil, hd, hx, hr]
    exact hK _ hrow (grown_setCells _ _ _ _)
theorem wpList_roomE {w : World} {T e : TypeId} (hT : P.underlying T = some (.slice e)) (hs : (P.info? e).map (·.size) = some E.k) {ops : Array Oper} {rest : List Oper} {o : Oper} {a : Act} {Q : Exit → Act → World → Prop} (hgd : o.guard = none) (s x : Operand)
    (ho : o.op = .call { callee := .builtin .append, args := #[s, x], argTypes := #[T, T] }) {B g n cap : Nat} {xs : List α} (h : RowE E w B e (.slice (some ⟨g, 0, none⟩) n cap) xs)
    (hd : a.eval s = .slice (some ⟨g, 0, none⟩) n cap) (sv : Value) (hx : a.eval x = sv) (ys : List α) (hv : SeesE E w sv ys) (hy : n + ys.length ≤ cap)
    (hK : ∀ w', RowE E w' B e (.slice (some ⟨g, 0, none⟩) (n + ys.length) cap) (xs ++ ys) → w.grownBy w' (some g) → wpList P ops Q rest (a.put o.dst (.slice (some ⟨g, 0, none⟩) (n + ys.length) cap)) w') : wpList P ops Q (o :: rest) a w :=
  wpList_plain hgd fun _ hK' => wp_roomE hT hs s x ho h hd sv hx ys hv hy fun w' h1 h2 => hK' _ _ (hK w' h1 h2)
theorem step_roomE {w : World} {T e : TypeId} (hT : P.underlying T = some (.slice e)) (hs : (P.info? e).map (·.size) = some E.k) {ops : Array Oper} {o : Oper} {a : Act} {K : Act → World → Prop} {Q : Exit → Act → World → Prop} {F : Prop} (hgd : o.guard = none) (s x : Operand)
    (ho : o.op = .call { callee := .builtin .append, args := #[s, x], argTypes := #[T, T] }) {B g n cap : Nat} {xs : List α} (h : RowE E w B e (.slice (some ⟨g, 0, none⟩) n cap) xs)
    (hd : a.eval s = .slice (some ⟨g, 0, none⟩) n cap) (sv : Value) (hx : a.eval x = sv) (ys : List α) (hv : SeesE E w sv ys) (hy : n + ys.length ≤ cap)
    (hK : ∀ w', RowE E w' B e (.slice (some ⟨g, 0, none⟩) (n + ys.length) cap) (xs ++ ys) → w.grownBy w' (some g) → K (a.put o.dst (.slice (some ⟨g, 0, none⟩) (n + ys.length) cap)) w') : if Region.wanted o (yielded ops a.tmps) = true then Oper.wp P o a w K Q else F := by
  have hw : Region.wanted o (yielded ops a.tmps) = true := by simp [Region.wanted, hgd]
  rw [if_pos hw]
  exact wp_roomE hT hs s x ho h hd sv hx ys hv hy hK
/-- append of k zero values where there is no room. -/
theorem wpList_zerosE {w : World} {T Tn e : TypeId} {z : Value} {bytes : Nat} (hT : P.underlying T = some (.slice e)) (hTn : P.underlying Tn = some (.int .i64)) (hI : (P.info? e).map (fun i => (i.zero, i.size, i.bytes)) = some (some z, E.k, bytes)) (zr : α) (hzr : z.cells.toList = E.c zr) {ops : Array Oper} {rest : List Oper} {o : Oper} {a : Act} {Q : Exit → Act → World → Prop} (hgd : o.guard = none) (s x : Operand)
    (ho : o.op = .call { callee := .builtin .append, args := #[s, x], argTypes := #[T, Tn] }) {B g n cap : Nat} {xs : List α} (h : RowE E w B e (.slice (some ⟨g, 0, none⟩) n cap) xs)
    (hd : a.eval s = .slice (some ⟨g, 0, none⟩) n cap) (k : Nat) (kv : Int) (hkv : kv = (k : Int)) (hx : a.eval x = .int .i64 kv) (N : Nat) (hN : N = n + k) (h0 : 0 < k) (hroom : cap < n + k) (hbig : (n + k) * bytes ≤ 140737488355328) (hm : n + k ≤ maxLen) (hB : B ≤ w.heap.size)
    (hK : ∀ c' w', RowE E w' B e (.slice (some ⟨w.heap.size, 0, none⟩) N c') (xs ++ List.replicate k zr) → Below w.heap.size w w' → wpList P ops Q rest (a.put o.dst (.slice (some ⟨w.heap.size, 0, none⟩) N c')) w') : wpList P ops Q (o :: rest) a w := by
  subst hkv hN
  refine wpList_plain hgd fun K hK' => ?_
  obtain ⟨i0, hi, hz0, hz1, hz2⟩ := info_partsV hI
  have hsee := h.sees
  have hn := (rowE_un h).2.1
  have hold : (Builtin.firstCells i0.size n (.slice (some ⟨g, 0, none⟩) n cap)).run P w.drew = .ok (E.flat xs).toArray w.drew := by
    rw [hz1]
    refine run_firstCells_some w.drew E.k n ⟨g, 0, none⟩ n cap (E.flat xs) (by rw [E.flat_len, hn]) (fun j v hj => ?_)
    rw [Addr.add_lit]
    obtain ⟨ao, c2, e1, _, _, _, h4⟩ := hsee
    have hpos : 0 < xs.length := by
      have := (List.getElem?_eq_some_iff.1 hj).1
      rw [E.flat_len] at this
      cases hl : xs.length with
      | zero => rw [hl, Nat.zero_mul] at this; omega
      | succ m => omega
    obtain ⟨b, off, e2, _, hh⟩ := h4 hpos
    injection e1 with e1 _ _
    rw [e2] at e1
    injection e1 with e1
    injection e1 with e3 e4
    subst e3 e4
    exact hh j v hj
  have hkb : k * i0.bytes ≤ 281474976710656 := by
    rw [hz2]
    have : k * bytes ≤ (n + k) * bytes := Nat.mul_le_mul_right _ (by omega)
    omega
  have hr := fun ty => Lib.run_append_grow_zeros w T Tn ty e i0 z .i64 .i64 hT hTn hi hz0 (some ⟨g, 0, none⟩) n cap (E.flat xs) hold k h0 (by rw [hz1]; exact E.pos) hroom (by unfold maxLen at hm; omega) hkb (by rw [hz2]; exact growslice_fits hroom hbig)
  unfold Oper.wp execOp
  simp only [ho, resolve, invoke, builtin, Sem.run_bind, Sem.run_pure, Result.andThen_ok, List.map_toArray, List.map_cons, List.map_nil, hd, hx, hr]
  refine hK' _ _ (hK _ _ ?_ ?_)
  · have hzl : z.cells.size = E.k := by rw [← Array.length_toList, hzr, E.len]
    have hzc : ∀ m, (Builtin.zeroCells z.cells m).toList = E.flat (List.replicate m zr) := by
      intro m
      apply List.ext_getElem
      · rw [Array.length_toList, size_zeroCells, E.flat_len, List.length_replicate, hzl]
      · intro j h1 h2
        rw [E.flat_len, List.length_replicate] at h2
        have hkp := E.pos
        have hd1 : j / E.k < m := Nat.div_lt_of_lt_mul (by rw [Nat.mul_comm]; exact h2)
        have hmod : j % E.k < E.k := Nat.mod_lt _ hkp
        have hf := E.flat_at (List.replicate m zr) (j / E.k) (by simpa using hd1) (j % E.k) hmod
        rw [show j / E.k * E.k + j % E.k = j by rw [Nat.mul_comm]; exact Nat.div_add_mod j E.k] at hf
        have h3 : (E.flat (List.replicate m zr))[j]? = some (E.flat (List.replicate m zr))[j] := List.getElem?_eq_getElem (by rw [E.flat_len, List.length_replicate]; exact h2)
        rw [h3] at hf
        have h4 : (E.c zr)[j % E.k]? = some ((E.c zr)[j % E.k]'(by rw [E.len]; exact hmod)) := List.getElem?_eq_getElem (by rw [E.len]; exact hmod)
        rw [List.getElem_replicate, h4] at hf
        injection hf with hf
        rw [hf]
        simp only [Builtin.zeroCells, Array.getElem_toList, Array.getElem_map, Array.getElem_range]
        rw [getElem!_pos z.cells (j % z.cells.size) (Nat.mod_lt _ (by omega))]
        have : (z.cells[j % z.cells.size]'(Nat.mod_lt _ (by omega))) = (z.cells.toList[j % E.k]'(by rw [hzr, E.len]; exact hmod)) := by
          simp only [Array.getElem_toList, hzl]
        rw [this]
        simp only [hzr]
    have hge := grownCap_ge w (n + k) cap e
    have hcur : ∃ cur : Array Value, cur = (E.flat xs).toArray ++ Builtin.zeroCells z.cells k ++ Builtin.zeroCells z.cells (grownCap w (n + k) cap e - (n + k)) := ⟨_, rfl⟩
    obtain ⟨cur, hcur⟩ := hcur
    rw [← hcur]
    have hheap : (w.drew.alloc (.cells cur e)).heap[w.heap.size]? = some (.cells cur e) := (MapKept.heap_alloc w.drew _).1
    have hlen : (E.flat xs).length = n * E.k := by rw [E.flat_len, hn]
    refine rowE_mk hheap hB (by simp; omega) hge (grownCap_le_maxLen w _ _ _ hm) ?_ ?_
    · rw [hcur]
      simp only [Array.size_append, size_zeroCells, hzl, List.size_toArray, hlen]
      rw [← Nat.add_mul, ← Nat.add_mul]
      congr 1
      omega
    · rw [hcur, E.flat_app, ← hzc k]
      simp only [Array.toList_append]
      rw [List.take_append_of_le_length (by simp [size_zeroCells, hzl, hlen, Nat.add_mul])]
      exact List.take_of_length_le (by simp [size_zeroCells, hzl, hlen, Nat.add_mul])
  · exact (bel_newG w.drew _) |> fun h => ⟨h.os, h.tape, h.output, h.size, h.block⟩
end
end Go.Proofs.Ythjcmagionaepaa.Kit

namespace Go.Proofs.Ythjcmagionaepaa.Kit
open Go.ChangeShapes Go.WideShapes Go.ChangeAt Go.RowKit
set_option linter.unusedVariables false
section
variable {α : Type} {E : Enc α} {P : Program}
theorem src_sees {w : World} {T e : TypeId} (hT : P.underlying T = some (.slice e)) {ao : Option Addr} {c2 : Nat} {ys : List α} (hv : SeesE E w (.slice ao ys.length c2) ys) : Src P E.k T (.slice ao ys.length c2) ys.length (E.flat ys) w := by
  obtain ⟨ao', c2', e0, h1, h2, h3, h4⟩ := hv
  injection e0 with e1 _ e2
  subst e1 e2
  by_cases h0 : 0 < ys.length
  · obtain ⟨b, off, e1, _, hh⟩ := h4 h0
    subst e1
    exact Src.ofSlice w hT ⟨b, off, none⟩ ys.length c2 (E.flat ys) (E.flat_len ys) (fun j u hj => by rw [Addr.add_lit]; exact hh j u hj) (E.flat_one ys)
  · have : ys = [] := List.eq_nil_of_length_eq_zero (by omega)
    subst this
    cases ao with
    | none => exact Src.ofNil w hT c2
    | some ad => exact Src.ofSlice w hT ad 0 c2 [] (by simp) (by simp) (by simp)
theorem wp_growE {w : World} {T e : TypeId} {z : Value} {bytes : Nat} (hT : P.underlying T = some (.slice e)) (hI : (P.info? e).map (fun i => (i.zero, i.size, i.bytes)) = some (some z, E.k, bytes)) (hzc : z.cells.size = E.k) {o : Oper} {a : Act} {K : Act → World → Prop} {Q : Exit → Act → World → Prop} (s x : Operand)
    (ho : o.op = .call { callee := .builtin .append, args := #[s, x], argTypes := #[T, T] }) {B g n cap : Nat} {xs : List α} (h : RowE E w B e (.slice (some ⟨g, 0, none⟩) n cap) xs)
    (hd : a.eval s = .slice (some ⟨g, 0, none⟩) n cap) (sv : Value) (hx : a.eval x = sv) (ys : List α) (hv : SeesE E w sv ys) (hroom : cap < n + ys.length) (hbig : (n + ys.length) * bytes ≤ 140737488355328) (hm : n + ys.length ≤ maxLen) (hB : B ≤ w.heap.size)
    (hK : ∀ c' w', RowE E w' B e (.slice (some ⟨w.heap.size, 0, none⟩) (n + ys.length) c') (xs ++ ys) → Below w.heap.size w w' → K (a.put o.dst (.slice (some ⟨w.heap.size, 0, none⟩) (n + ys.length) c')) w') : o.wp P a w K Q := by
  obtain ⟨ao, c2, rfl⟩ := hv.form
  obtain ⟨i0, hi, hz0, hz1, hz2⟩ := info_partsV hI
  have hsee := h.sees
  have hn := (rowE_un h).2.1
  have hsrc := src_sees hT hv
  rw [← hz1] at hsrc
  have hold : (Builtin.firstCells i0.size n (.slice (some ⟨g, 0, none⟩) n cap)).run P w.drew = .ok (E.flat xs).toArray w.drew := by
    rw [hz1]
    have := (src_sees (P := P) hT (E := E) (w := w) (ao := some ⟨g, 0, none⟩) (c2 := cap) (ys := xs) (by rw [← hn]; exact hsee)).cellsD
    rw [← hn] at this
    exact this
  have hr := fun ty => run_append_grow_src (P := P) w T T ty e i0 z hT hi hz0 (some ⟨g, 0, none⟩) n cap (E.flat xs) hold (.slice ao ys.length c2) ys.length (E.flat ys) hsrc hroom (by unfold maxLen at hm; omega) (by rw [hz2]; exact growslice_fits hroom hbig)
  unfold Oper.wp execOp
  simp only [ho, resolve, invoke, builtin, Sem.run_bind, Sem.run_pure, Result.andThen_ok, List.map_toArray, List.map_cons, List.map_nil, hd, hx, hr]
  have hge := grownCap_ge w (n + ys.length) cap e
  obtain ⟨cur, hcur⟩ : ∃ cur : Array Value, cur = (E.flat xs ++ E.flat ys).toArray ++ Builtin.zeroCells z.cells (grownCap w (n + ys.length) cap e - (n + ys.length)) := ⟨_, rfl⟩
  rw [← hcur]
  have hlen : (E.flat xs ++ E.flat ys).length = (n + ys.length) * E.k := by rw [List.length_append, E.flat_len, E.flat_len, ← hn, Nat.add_mul]
  have hheap : (w.drew.alloc (.cells cur e)).heap[w.heap.size]? = some (.cells cur e) := (MapKept.heap_alloc w.drew _).1
  refine hK _ _ (rowE_mk hheap hB (by rw [List.length_append, hn]) hge (grownCap_le_maxLen w _ _ _ hm) ?_ ?_) ((bel_newG w.drew _) |> fun h => ⟨h.os, h.tape, h.output, h.size, h.block⟩)
  · rw [hcur]
    simp only [Array.size_append, size_zeroCells, hzc, List.size_toArray, hlen]
    rw [← Nat.add_mul]
    congr 1
    omega
  · rw [hcur, E.flat_app]
    simp only [Array.toList_append]
    rw [List.take_append_of_le_length (by rw [hlen]; exact Nat.le_refl _)]
    exact List.take_of_length_le (by rw [hlen]; exact Nat.le_refl _)
/-- append: where the outcome lies. -/
theorem wp_appF {w : World} {T e : TypeId} {z : Value} {bytes : Nat} (hT : P.underlying T = some (.slice e)) (hI : (P.info? e).map (fun i => (i.zero, i.size, i.bytes)) = some (some z, E.k, bytes)) (hzc : z.cells.size = E.k) {o : Oper} {a : Act} {K : Act → World → Prop} {Q : Exit → Act → World → Prop} (s x : Operand)
    (ho : o.op = .call { callee := .builtin .append, args := #[s, x], argTypes := #[T, T] }) (base : Nat) (v : Value) (xs : List α) (hs : a.eval s = v) (hown : RowE E w base e v xs)
    (y : Value) (news : List α) (hx : a.eval x = y) (hv : SeesE E w y news) (hm : xs.length + news.length ≤ maxLen) (hlen : (xs.length + news.length) * bytes ≤ 140737488355328) (hbase : base ≤ w.heap.size)
    (h : ∀ v' w', RowE E w' base e v' (xs ++ news) → w.grownBy w' v.ownBlock → (∀ k, v'.ownBlock = some k → v.ownBlock = some k ∨ w.heap.size ≤ k) → K (a.put o.dst v') w') : o.wp P a w K Q := by
  have hown' := hown
  obtain ⟨h1, h2⟩ := hown'
  rcases h2 with ⟨rfl, h2⟩ | ⟨g, cap, cur, rfl, hg, _⟩
  · have hnil : xs = [] := List.eq_nil_of_length_eq_zero h2
    subst hnil
    exact wp_appE hT hI hzc s x ho w.heap.size _ [] hs (rowE_nil E w _ e) y news hx hv hm hlen (Nat.le_refl _) fun v' w' k1 k2 => h v' w' (k1.mono hbase) k2 fun k hk => .inr (k1.block k hk)
  · have hsz : (P.info? e).map (·.size) = some E.k := by
      obtain ⟨i0, hi, _, hz1, _⟩ := info_partsV hI
      rw [hi]; simp [hz1]
    by_cases hroom : xs.length + news.length ≤ cap
    · exact wp_roomE hT hsz s x ho hown hs y hx news hv hroom fun w' k1 k2 => h _ w' k1 k2 fun k hk => .inl hk
    · exact wp_growE hT hI hzc s x ho hown hs y hx news hv (by omega) hlen hm hbase fun c' w' k1 k2 => h _ w' k1 ⟨k2.os, k2.tape, k2.output, k2.size, fun k hk _ => k2.block k hk⟩ fun k hk => .inr (by simp [Value.ownBlock] at hk; omega)
theorem wpList_appF {w : World} {T e : TypeId} {z : Value} {bytes : Nat} (hT : P.underlying T = some (.slice e)) (hI : (P.info? e).map (fun i => (i.zero, i.size, i.bytes)) = some (some z, E.k, bytes)) (hzc : z.cells.size = E.k) {ops : Array Oper} {rest : List Oper} {o : Oper} {a : Act} {Q : Exit → Act → World → Prop} (hgd : o.guard = none) (s x : Operand)
    (ho : o.op = .call { callee := .builtin .append, args := #[s, x], argTypes := #[T, T] }) (base : Nat) (v : Value) (xs : List α) (hs : a.eval s = v) (hown : RowE E w base e v xs)
    (y : Value) (news : List α) (hx : a.eval x = y) (hv : SeesE E w y news) (hm : xs.length + news.length ≤ maxLen) (hlen : (xs.length + news.length) * bytes ≤ 140737488355328) (hbase : base ≤ w.heap.size)
    (h : ∀ v' w', RowE E w' base e v' (xs ++ news) → w.grownBy w' v.ownBlock → (∀ k, v'.ownBlock = some k → v.ownBlock = some k ∨ w.heap.size ≤ k) → wpList P ops Q rest (a.put o.dst v') w') : wpList P ops Q (o :: rest) a w :=
  wpList_plain hgd fun _ hK' => wp_appF hT hI hzc s x ho base v xs hs hown y news hx hv hm hlen hbase fun v' w' h1 h2 h3 => hK' _ _ (h v' w' h1 h2 h3)
end
theorem sees_grown {α : Type} {E : Enc α} {w w' : World} {v : Value} {xs : List α} {o : Option Nat} (h : SeesE E w v xs) (hg : w.grownBy w' o) (hne : v.ownBlock = none ∨ v.ownBlock ≠ o) : SeesE E w' v xs := by
  obtain ⟨ao, cap, h1, h2, h3, h4, h5⟩ := h
  refine ⟨ao, cap, h1, h2, h3, h4, fun h0 => ?_⟩
  obtain ⟨b, off, e, hl, hh⟩ := h5 h0
  subst h1 e
  have hb : some b ≠ o := by
    rcases hne with h | h
    · simp [Value.ownBlock] at h
    · exact h
  refine ⟨b, off, rfl, Nat.lt_of_lt_of_le hl hg.size, fun i x hx => ?_⟩
  exact hg.cell (hh i x hx) hb
theorem grown_trans {w w1 w2 : World} {o : Option Nat} (h : w.grownBy w1 o) (k : w1.grownBy w2 o) : w.grownBy w2 o :=
  ⟨k.os.trans h.os, k.tape.trans h.tape, k.output.trans h.output, Nat.le_trans h.size k.size, fun i hi hne => (k.block i (Nat.lt_of_lt_of_le hi h.size) hne).trans (h.block i hi hne)⟩
theorem grown_below {w w' : World} (o : Option Nat) (h : Below w.heap.size w w') : w.grownBy w' o := ⟨h.os, h.tape, h.output, h.size, fun k hk _ => h.block k hk⟩
end Go.Proofs.Ythjcmagionaepaa.Kit

namespace Go.Proofs.Ythjcmagionaepaa
open Go.RowKit Kit
set_option linter.unusedVariables false

/-- Numbers, one cell each. -/
def inE : Enc Int where
  k := 1
  c x := [.int .i64 x]
  len _ := rfl
  pos := by decide
  one p u hu := by simp at hu; subst hu; rfl
theorem inE_flat (l : List Int) : inE.flat l = iV l := by
  unfold Enc.flat iV inE
  induction l with
  | nil => rfl
  | cons a l ih => rw [List.flatMap_cons, ih]; rfl
theorem inE_row {w : World} {B : Nat} {e : TypeId} {v : Value} {l : List Int} (h : RowE inE w B e v l) : RowV w B e v (iV l) := by
  unfold RowE at h
  rw [inE_flat] at h
  unfold RowV
  rw [iV_len]
  exact h
theorem inE_rowE {w : World} {B : Nat} {e : TypeId} {v : Value} {l : List Int} (h : RowV w B e v (iV l)) : RowE inE w B e v l := by
  unfold RowV at h
  rw [iV_len] at h
  unfold RowE
  rw [inE_flat]
  exact h
theorem inE_sees {w : World} {v : Value} {l : List Int} (h : SeesE inE w v l) : Sees w v (iV l) := by
  obtain ⟨ao, cap, h1, h2, h3, h4, h5⟩ := h
  refine ⟨ao, cap, by rw [iV_len]; exact h1, by rw [iV_len]; exact h2, h3, h4, fun h0 => ?_⟩
  rw [iV_len] at h0
  obtain ⟨b, off, e, hb, hc⟩ := h5 h0
  rw [inE_flat] at hc
  exact ⟨b, off, e, hb, hc⟩
theorem from_seesE {α : Type} {E : Enc α} {w : World} {B g n cap : Nat} {e : TypeId} {xs : List α} (h : RowE E w B e (.slice (some ⟨g, 0, none⟩) n cap) xs) (j : Nat) (hj : j ≤ n) :
    ∃ A : Addr, (if cap = j then some (⟨g, 0, none⟩ : Addr) else some ⟨g, j * E.k, none⟩) = some A ∧ Hid (SeesE E w (.slice (some A) (n - j) (cap - j)) (xs.drop j)) := by
  obtain ⟨_, h2, h3, h4, _⟩ := rowE_un h
  by_cases hc : cap = j
  · refine ⟨_, by rw [if_pos hc], ?_⟩
    have : xs.drop j = [] := List.drop_eq_nil_of_le (by omega)
    show SeesE _ _ _ _
    rw [this, show n - j = 0 by omega, show cap - j = 0 by omega]
    exact ⟨_, 0, rfl, Nat.le_refl _, Nat.zero_le _, by simp, fun h => absurd h (by simp)⟩
  · exact ⟨_, by rw [if_neg hc], h.from j hj⟩
theorem in_cells {w : World} {ao : Option Addr} {n cap : Nat} {l : List Int} (h : SeesE inE w (.slice ao n cap) l) (h0 : 0 < l.length) : ∃ b off, ao = some ⟨b, off, none⟩ ∧ n = l.length ∧ b < w.heap.size ∧ ∀ (i : Nat) (hi : i < l.length), w.cell? ⟨b, off + i, none⟩ = some (.int .i64 l[i]) := by
  obtain ⟨b, off, e, hn, hb, hc⟩ := h.cells h0
  exact ⟨b, off, e, hn, hb, fun i hi => by have := hc i hi 0 _ rfl; simpa [inE] using this⟩
theorem sees_cells {w : World} {bo : Option Addr} {m cap : Nat} {es : List Int} (h : Sees w (.slice bo m cap) (iV es)) (h0 : 0 < es.length) : ∃ b off, bo = some ⟨b, off, none⟩ ∧ b < w.heap.size ∧ ∀ i, i < es.length → w.cell? ⟨b, off + i, none⟩ = some (.int .i64 (es.getD i 0)) := by
  obtain ⟨ao, cap', e, _, _, _, h4⟩ := h
  injection e with e1 e2 e3
  subst e1
  obtain ⟨b, off, e4, hb, hc⟩ := h4 (by rw [iV_len]; exact h0)
  exact ⟨b, off, e4, hb, fun i hi => hc i _ (iV_at es i hi)⟩
theorem sees_inE {w : World} {v : Value} {l : List Int} (h : Sees w v (iV l)) : SeesE inE w v l := by
  obtain ⟨ao, cap, h1, h2, h3, h4, h5⟩ := h
  rw [iV_len] at h1 h2 h5
  refine ⟨ao, cap, h1, h2, h3, h4, fun h0 => ?_⟩
  obtain ⟨b, off, e, hb, hc⟩ := h5 h0
  rw [inE_flat]
  exact ⟨b, off, e, hb, hc⟩
theorem from_seesI {w : World} {b off n cap : Nat} {l : List Int} (h : SeesE inE w (.slice (some ⟨b, off, none⟩) n cap) l) (j : Nat) (hj : j ≤ n) :
    ∃ A : Addr, (if cap = j then some (⟨b, off, none⟩ : Addr) else some ⟨b, off + j, none⟩) = some A ∧ Hid (SeesE inE w (.slice (some A) (n - j) (cap - j)) (l.drop j)) := by
  obtain ⟨ao, cap', e, h2, h3, _, _⟩ := id h
  injection e with e1 e2 e3
  subst e3
  by_cases hc : cap = j
  · refine ⟨_, by rw [if_pos hc], ?_⟩
    have : l.drop j = [] := List.drop_eq_nil_of_le (by omega)
    show SeesE _ _ _ _
    rw [this, show n - j = 0 by omega, show cap - j = 0 by omega]
    exact ⟨_, 0, rfl, Nat.le_refl _, Nat.zero_le _, by simp, fun h => absurd h (by simp)⟩
  · refine ⟨_, by rw [if_neg hc], ?_⟩
    have h9 := h.drop j (by omega)
    rw [show off + j * inE.k = off + j by simp [inE]] at h9
    exact h9
theorem app_first {W w' : World} {t : TypeId} {n c : Nat} (hg : ((W.alloc (.cells #[] t)).drew).grownBy w' (Value.slice (some ⟨W.heap.size, 0, none⟩) n c).ownBlock) : Below W.heap.size W w' := by
  have hb : Below W.heap.size W (W.alloc (.cells #[] t)).drew := (bel_newG _ _).drew
  exact ⟨hg.os.trans hb.os, hg.tape.trans hb.tape, hg.output.trans hb.output, Nat.le_trans hb.size hg.size, fun k hk => by
    have h2 := hb.size
    rw [hg.block k (by omega) (fun e => by simp [Value.ownBlock] at e; omega), hb.block k hk]⟩
/-- append at a step that is guarded, and taken. -/
theorem wpList_appT {α : Type} {E : Enc α} {P : Program} {T e : TypeId} {z : Value} {bytes : Nat} (hT : P.underlying T = some (.slice e)) (hI : (P.info? e).map (fun i => (i.zero, i.size, i.bytes)) = some (some z, E.k, bytes)) (hzc : z.cells.size = E.k) {ops : Array Oper} {rest : List Oper} {o : Oper} {a : Act} {Q : Exit → Act → World → Prop} {w : World} (hgw : Region.wanted o (yielded ops a.tmps) = true) (s x : Operand)
    (ho : o.op = .call { callee := .builtin .append, args := #[s, x], argTypes := #[T, T] }) (base : Nat) (v : Value) (xs : List α) (hs : a.eval s = v) (hown : RowE E w base e v xs)
    (y : Value) (news : List α) (hx : a.eval x = y) (hv : SeesE E w y news) (hm : xs.length + news.length ≤ maxLen) (hlen : (xs.length + news.length) * bytes ≤ 140737488355328) (hbase : base ≤ w.heap.size)
    (h : ∀ v' w', RowE E w' base e v' (xs ++ news) → w.grownBy w' v.ownBlock → wpList P ops Q rest (a.put o.dst v') w') : wpList P ops Q (o :: rest) a w := by
  unfold wpList
  rw [if_pos hgw]
  exact .inl (wp_appE hT hI hzc s x ho base v xs hs hown y news hx hv hm hlen hbase h)
/-- Values of one cell each. -/
def vlE : Enc { v : Value // v.oneCell' = true } where
  k := 1
  c x := [x.1]
  len _ := rfl
  pos := by decide
  one p u hu := by simp at hu; subst hu; exact p.2
end Go.Proofs.Ythjcmagionaepaa

namespace Go.Proofs.Ythjcmagionaepaa
open Go.RowKit Kit
set_option linter.unusedVariables false

def OwnW (w : World) : Type := { w' : World // Below w.heap.size w w' }
theorem wp_region_own {P : Program} {id : Nat} {Q : Exit → Act → World → Prop} {a : Act} {w : World} {l : List Oper} (hm : P.follows .mixedOrders = true) (hB : Region.lexB .any l.toArray = true)
    (h : wpQuiet P l.toArray (fun w' => ∃ n : OwnW w, w' = n.1) (fun a' => ∀ w', (∃ n : OwnW w, w' = n.1) → Q .normal a' w') l a) : (Code.region id l.toArray true).wp P Q a w :=
  wp_region_quiet (C := fun w' => ∃ n : OwnW w, w' = n.1) hm hB ⟨⟨_, (Below.refl w.heap.size w).drew⟩, rfl⟩ (by simpa using h)
theorem Calls.own_of {P : Program} {f : FuncId} {args : Array Value} {w : World} {n : OwnW w} {v : Value} (h : Calls P f args n.1 fun e w' => e = .returned v ∧ Below n.1.heap.size n.1 w') :
    Calls P f args n.1 fun e w'' => e = .returned v ∧ ∃ m : OwnW w, w'' = m.1 :=
  h.mono fun _ w'' ⟨he, hb⟩ => ⟨he, ⟨w'', bel_tr n.2 hb⟩, rfl⟩
theorem ownW_nonempty (w : World) : Nonempty (OwnW w) := ⟨⟨w, Below.refl _ _⟩⟩
end Go.Proofs.Ythjcmagionaepaa

namespace Go.Proofs.Ythjcmagionaepaa.Kit
open Go.ChangeShapes Go.WideShapes Go.ChangeAt Go.RowKit
set_option linter.unusedVariables false

theorem wp_appV {P : Program} {T E : TypeId} {z : Value} {bytes : Nat} (hT : P.underlying T = some (.slice E)) (hI : (P.info? E).map (fun i => (i.zero, i.size, i.bytes)) = some (some z, 1, bytes)) (hzc : z.cells.size = 1) (hby : bytes ≤ 16) {o : Oper} {a : Act} {K : Act → World → Prop} {Q : Exit → Act → World → Prop} {w : World} (s x : Operand)
    (ho : o.op = .call { callee := .builtin .append, args := #[s, x], argTypes := #[T, T] }) (base : Nat) (v : Value) (xs : List Value) (hs : a.eval s = v) (hown : RowV w base E v xs)
    (y : Value) (news : List Value) (hx : a.eval x = y) (hv : Sees w y news) (h1c : ∀ u ∈ news, u.oneCell' = true) (hlen : (xs.length + news.length) * 16 ≤ 140737488355328) (hbase : base ≤ w.heap.size)
    (h : ∀ v' w', RowV w' base E v' (xs ++ news) → Below base w w' → K (a.put o.dst v') w') : o.wp P a w K Q := by
  obtain ⟨i0, hi, hz0, hz1, hz2⟩ := info_parts hI
  have fin : ∀ v' w', w'.ownsRow base E 1 v' (xs.length + news.length) (xs ++ news) → w.grownBy w' v.ownBlock → K (a.put o.dst v') w' := by
    intro v' w' h1 h2
    refine h v' w' ?_ ((Below.refl _ _).grown h2 hbase hown.block)
    unfold RowV
    rw [List.length_append]; exact h1
  obtain ⟨ao, cap, rfl, h1, h2, h3, h4⟩ := hv
  cases ao with
  | none =>
    have hc := h3 rfl
    have hn : news = [] := List.eq_nil_of_length_eq_zero (by omega)
    subst hn
    subst hc
    have hrun := run_append_owned_none (P := P) (w := w) base T o.type E i0 1 hT hi v xs.length xs hown
    have hk := h v w (by rw [List.append_nil]; exact hown) (Below.refl _ _)
    simp only [List.length_nil] at hx
    unfold Oper.wp
    simp [execOp, ho, resolve, invoke, builtin, hs, hx, hrun, Result.andThen]
    exact hk
  | some ad =>
    refine wp_append_own w s x T ho base E i0 z 1 bytes hT hi hz0 hz1 hz2 hzc (by omega) v xs.length xs hs hown ad news.length cap news hx (by simp) ?_ h1c (by unfold maxLen; omega) (size_okV hby hlen) hbase ?_
    · intro j u hj
      have hj' : j < news.length := (List.getElem?_eq_some_iff.1 hj).1
      obtain ⟨b, off, e, _, hh⟩ := h4 (by omega)
      cases e
      rw [Addr.add_lit]
      exact hh j u hj
    · intro v' w' k1 k2 _
      exact fin v' w' k1 k2
theorem step_appV {P : Program} {T E : TypeId} {z : Value} {bytes : Nat} (hT : P.underlying T = some (.slice E)) (hI : (P.info? E).map (fun i => (i.zero, i.size, i.bytes)) = some (some z, 1, bytes)) (hzc : z.cells.size = 1) (hby : bytes ≤ 16) {ops : Array Oper} {o : Oper} {a : Act} {K : Act → World → Prop} {Q : Exit → Act → World → Prop} {F : Prop} {w : World} (hgd : o.guard = none) (s x : Operand)
    (ho : o.op = .call { callee := .builtin .append, args := #[s, x], argTypes := #[T, T] }) (base : Nat) (v : Value) (xs : List Value) (hs : a.eval s = v) (hown : RowV w base E v xs)
    (y : Value) (news : List Value) (hx : a.eval x = y) (hv : Sees w y news) (h1c : ∀ u ∈ news, u.oneCell' = true) (hlen : (xs.length + news.length) * 16 ≤ 140737488355328) (hbase : base ≤ w.heap.size)
    (h : ∀ v' w', RowV w' base E v' (xs ++ news) → Below base w w' → K (a.put o.dst v') w') : if Region.wanted o (yielded ops a.tmps) = true then Oper.wp P o a w K Q else F := by
  have hw : Region.wanted o (yielded ops a.tmps) = true := by simp [Region.wanted, hgd]
  rw [if_pos hw]
  exact wp_appV hT hI hzc hby s x ho base v xs hs hown y news hx hv h1c hlen hbase h
theorem ints_one (zs : List Int) (k : IntKind) : ∀ u ∈ zs.map (Value.int k), u.oneCell' = true := by
  intro u hu
  obtain ⟨z, _, rfl⟩ := List.mem_map.1 hu
  rfl
end Go.Proofs.Ythjcmagionaepaa.Kit
