/- Slices of structs written in place: copy, clear, append where there is room, append of so many zero values. (No program in it.) -/
import Derived.Test.YtbkciencikdacaaKitStE
import Derived.Laws.IdiomCopy
import Derived.Lib.AppendZerosOnto
namespace Go.Proofs.Ytbkciencikdacaa.Kit
open Go.ChangeShapes Go.WideShapes Go.ChangeAt Go.RowKit
set_option linter.unusedVariables false

theorem heap_setCells_other (g : Nat) : ∀ (vs : List Value) (o : Nat) (w : World) (k : Nat), k ≠ g → (w.setCells g o vs).heap[k]? = w.heap[k]?
  | [], _, _, _, _ => rfl
  | v :: r, o, w, k, h => by rw [World.setCells, heap_setCells_other g r _ _ k h]; exact Below.heap_setCell _ _ _ k h
theorem size_setCells (g : Nat) : ∀ (vs : List Value) (o : Nat) (w : World), (w.setCells g o vs).heap.size = w.heap.size
  | [], _, _ => rfl
  | v :: r, o, w => by rw [World.setCells, size_setCells g r]; simp [World.setCell]
theorem rest_setCells (g : Nat) : ∀ (vs : List Value) (o : Nat) (w : World), (w.setCells g o vs).os = w.os ∧ (w.setCells g o vs).tape = w.tape ∧ (w.setCells g o vs).output = w.output
  | [], _, _ => ⟨rfl, rfl, rfl⟩
  | v :: r, o, w => by rw [World.setCells]; exact rest_setCells g r _ _
theorem grown_setCells (g : Nat) (vs : List Value) (o : Nat) (w : World) : w.grownBy (w.setCells g o vs) (some g) :=
  ⟨(rest_setCells g vs o w).1, (rest_setCells g vs o w).2.1, (rest_setCells g vs o w).2.2, Nat.le_of_eq (size_setCells g vs o w).symm, fun k _ hne => heap_setCells_other g vs o w k (fun e => hne (by rw [e]))⟩
theorem heap_setCells (g : Nat) (e : TypeId) : ∀ (vs : List Value) (o : Nat) (w : World) (cur : Array Value), w.heap[g]? = some (.cells cur e) →
    ∃ cur', (w.setCells g o vs).heap[g]? = some (.cells cur' e) ∧ cur'.size = cur.size ∧ ∀ j, cur'.toList[j]? = if o ≤ j ∧ j < o + vs.length ∧ j < cur.size then vs[j - o]? else cur.toList[j]?
  | [], o, w, cur, h => ⟨cur, h, rfl, fun j => by rw [if_neg (by simp; omega)]⟩
  | v :: r, o, w, cur, h => by
    obtain ⟨c, h1, h2, h3⟩ := heap_setCells g e r (o + 1) (w.setCell ⟨g, o, none⟩ v) _ (setCell_blk h v)
    refine ⟨c, h1, by rw [h2]; simp, fun j => ?_⟩
    rw [h3 j]
    simp only [Array.size_setIfInBounds, List.length_cons, Array.toList_setIfInBounds]
    by_cases h4 : o + 1 ≤ j ∧ j < o + 1 + r.length ∧ j < cur.size
    · rw [if_pos h4, if_pos (by omega), show j - o = (j - (o + 1)) + 1 by omega, List.getElem?_cons_succ]
    · rw [if_neg h4, List.getElem?_set]
      by_cases h5 : o = j
      · subst h5
        by_cases h6 : o < cur.size
        · rw [if_pos rfl, if_pos (by simpa using h6), if_pos (by omega), Nat.sub_self, List.getElem?_cons_zero]
        · rw [if_pos rfl, if_neg (by simpa using h6), if_neg (by omega)]
          exact (List.getElem?_eq_none (by simp; omega)).symm
      · rw [if_neg h5, if_neg (by omega)]
theorem rowE_mk {α : Type} {E : Enc α} {w : World} {B g n cap : Nat} {e : TypeId} {xs : List α} {cur : Array Value} (h : w.heap[g]? = some (.cells cur e)) (hB : B ≤ g) (hn : n = xs.length) (hc : n ≤ cap) (hm : cap ≤ maxLen) (hs : cur.size = cap * E.k)
    (ht : cur.toList.take (n * E.k) = E.flat xs) : RowE E w B e (.slice (some ⟨g, 0, none⟩) n cap) xs := by
  subst hn
  exact ⟨E.flat_len xs, .inr ⟨g, cap, cur, rfl, hB, h, hc, hm, hs, ht⟩⟩
theorem rowE_un {α : Type} {E : Enc α} {w : World} {B g n cap : Nat} {e : TypeId} {xs : List α} (h : RowE E w B e (.slice (some ⟨g, 0, none⟩) n cap) xs) :
    B ≤ g ∧ n = xs.length ∧ n ≤ cap ∧ cap ≤ maxLen ∧ g < w.heap.size ∧ ∃ cur, w.heap[g]? = some (.cells cur e) ∧ cur.size = cap * E.k ∧ cur.toList.take (n * E.k) = E.flat xs := by
  obtain ⟨_, h2⟩ := h
  rcases h2 with ⟨h2, _⟩ | ⟨g', cap', cur, hv, hg, hh, h3, h4, h5, h6⟩
  · cases h2
  · injection hv with e1 e2 e3
    injection e1 with e1
    injection e1 with e1
    subst e1 e3
    exact ⟨hg, e2, by omega, h4, blk_lt hh, cur, hh, h5, by rw [e2]; exact h6⟩
theorem RowE.take {α : Type} {E : Enc α} {w : World} {B g n cap : Nat} {e : TypeId} {xs : List α} (h : RowE E w B e (.slice (some ⟨g, 0, none⟩) n cap) xs) (i : Nat) (hi : i ≤ n) : RowE E w B e (.slice (some ⟨g, 0, none⟩) i cap) (xs.take i) := by
  obtain ⟨h1, h2, h3, h4, _, cur, h5, h6, h7⟩ := rowE_un h
  refine rowE_mk h5 h1 (by rw [List.length_take]; omega) (by omega) h4 h6 ?_
  rw [E.flat_take, ← h7, List.take_take, Nat.min_eq_left (Nat.mul_le_mul_right _ hi)]
/-- What a row's slice from i on shows. -/
theorem RowE.from {α : Type} {E : Enc α} {w : World} {B g n cap : Nat} {e : TypeId} {xs : List α} (h : RowE E w B e (.slice (some ⟨g, 0, none⟩) n cap) xs) (i : Nat) (hi : i ≤ n) : SeesE E w (.slice (some ⟨g, i * E.k, none⟩) (n - i) (cap - i)) (xs.drop i) := by
  have h2 := (rowE_un h).2.1
  have := h.sees.drop i (by omega)
  rw [Nat.zero_add] at this
  exact this
/-- Elements laid over a row from its i-th on. -/
theorem rowE_over {α : Type} {E : Enc α} {w : World} {B g n cap : Nat} {e : TypeId} {xs : List α} (h : RowE E w B e (.slice (some ⟨g, 0, none⟩) n cap) xs) (i : Nat) (ys : List α) (hi : i ≤ n) (hc : i + ys.length ≤ cap) (N : Nat) (hN : N = max n (i + ys.length)) :
    RowE E (w.setCells g (i * E.k) (E.flat ys)) B e (.slice (some ⟨g, 0, none⟩) N cap) (xs.take i ++ ys ++ xs.drop (i + ys.length)) := by
  obtain ⟨h1, h2, h3, h4, _, cur, h5, h6, h7⟩ := rowE_un h
  obtain ⟨c, k1, k2, k3⟩ := heap_setCells g e (E.flat ys) (i * E.k) w cur h5
  refine rowE_mk k1 h1 (by simp; omega) (by omega) h4 (by rw [k2, h6]) ?_
  apply List.ext_getElem?
  intro j
  have hx : ∀ j, j < n * E.k → cur.toList[j]? = (E.flat xs)[j]? := fun j hj => by rw [← h7, List.getElem?_take, if_pos hj]
  have m1 : i * E.k ≤ n * E.k := Nat.mul_le_mul_right _ hi
  have m2 : (i + ys.length) * E.k ≤ cap * E.k := Nat.mul_le_mul_right _ hc
  have m3 : n * E.k ≤ cap * E.k := Nat.mul_le_mul_right _ h3
  have m4 : n * E.k ≤ N * E.k := Nat.mul_le_mul_right _ (by omega)
  have m5 : (i + ys.length) * E.k ≤ N * E.k := Nat.mul_le_mul_right _ (by omega)
  have m6 : N * E.k = n * E.k ∨ N * E.k = (i + ys.length) * E.k := by
    rcases Nat.le_total n (i + ys.length) with h | h
    · right; rw [hN, Nat.max_eq_right h]
    · left; rw [hN, Nat.max_eq_left h]
  rw [Nat.add_mul] at m2 m5 m6
  have l1 : (E.flat (xs.take i)).length = i * E.k := by rw [E.flat_len, List.length_take]; congr 1; omega
  have l2 : (E.flat ys).length = ys.length * E.k := E.flat_len ys
  have l3 : (E.flat xs).length = n * E.k := by rw [E.flat_len, h2]
  rw [List.getElem?_take, E.flat_app, E.flat_app]
  split
  · rename_i hj
    rw [k3 j]
    by_cases c1 : j < i * E.k
    · rw [if_neg (by omega), List.getElem?_append_left (by rw [List.length_append]; omega), List.getElem?_append_left (by omega), hx j (by omega), E.flat_take, List.getElem?_take, if_pos c1]
    · by_cases c2 : j < i * E.k + ys.length * E.k
      · rw [if_pos (by omega), List.getElem?_append_left (by rw [List.length_append]; omega), List.getElem?_append_right (by omega), l1]
      · rw [if_neg (by omega), List.getElem?_append_right (by rw [List.length_append]; omega), List.length_append, l1, l2, hx j (by omega), E.flat_drop, List.getElem?_drop, Nat.add_mul]
        congr 1
        omega
  · rename_i hj
    refine (List.getElem?_eq_none ?_).symm
    rw [List.length_append, List.length_append, l1, l2, E.flat_drop, List.length_drop, l3, Nat.add_mul]
    omega
/-- Cells behind a row's elements. -/
theorem rowE_spare {α : Type} {E : Enc α} {w : World} {B g n cap : Nat} {e : TypeId} {xs : List α} (h : RowE E w B e (.slice (some ⟨g, 0, none⟩) n cap) xs) (o : Nat) (vs : List Value) (ho : n * E.k ≤ o) :
    RowE E (w.setCells g o vs) B e (.slice (some ⟨g, 0, none⟩) n cap) xs := by
  obtain ⟨h1, h2, h3, h4, _, cur, h5, h6, h7⟩ := rowE_un h
  obtain ⟨c, k1, k2, k3⟩ := heap_setCells g e vs o w cur h5
  refine rowE_mk k1 h1 h2 h3 h4 (by rw [k2, h6]) ?_
  rw [← h7]
  apply List.ext_getElem?
  intro j
  rw [List.getElem?_take, List.getElem?_take]
  split
  · rw [k3 j, if_neg (by omega)]
  · rfl
theorem rowE_cell {α : Type} {E : Enc α} {w : World} {B g n cap : Nat} {e : TypeId} {xs : List α} (h : RowE E w B e (.slice (some ⟨g, 0, none⟩) n cap) xs) (j : Nat) (hj : j < cap * E.k) : (w.cell? ⟨g, j, none⟩).isSome = true ∧ w.frozen? ⟨g, j, none⟩ = false := by
  obtain ⟨_, _, _, _, _, cur, h5, h6, _⟩ := rowE_un h
  refine ⟨?_, blk_frozen h5 j⟩
  rw [blk_cell h5 (x := cur[j]'(by omega)) (Array.getElem?_eq_getElem (by omega))]
  rfl
theorem seesE_at {α : Type} (E : Enc α) {w : World} {e : TypeId} {x : α} {H : Nat} (h : w.heap[H]? = some (.cells (E.c x).toArray e)) : SeesE E w (.slice (some ⟨H, 0, none⟩) 1 1) [x] := by
  refine ⟨_, 1, rfl, Nat.le_refl _, by unfold maxLen; omega, by simp, fun _ => ⟨_, 0, rfl, blk_lt h, fun j u hu => ?_⟩⟩
  rw [E.flat_sing] at hu
  rw [Nat.zero_add]
  simp only [World.cell?, h]
  rw [← hu]
  simp
section
variable {α : Type} {E : Enc α} {P : Program}
theorem run_copyK (w : World) (dT sT ty elem : TypeId) (sz : Nat) (b o dLen dCap : Nat) (a : Addr) (sLen sCap : Nat) (cs : List Value)
    (hu : P.underlying dT = some (.slice elem)) (hs : (P.info? elem).map (·.size) = some sz) (hn : cs.length = Nat.min sLen dLen * sz)
    (hsrc : ∀ j v, cs[j]? = some v → w.cell? (a.add j) = some v) (hc : ∀ j, j < cs.length → (w.cell? ⟨b, o + j, none⟩).isSome = true) (hf : ∀ j, j < cs.length → w.frozen? ⟨b, o + j, none⟩ = false) (h1 : ∀ v ∈ cs, v.oneCell' = true) :
    (Builtin.copy_ #[dT, sT] ty #[.slice (some ⟨b, o, none⟩) dLen dCap, .slice (some a) sLen sCap]).run P w = .ok (goInt (Nat.min sLen dLen)) (w.setCells b o cs) := by
  have hl := run_loadCells_list (P := P) w a cs hsrc
  have hst := run_storeCells_cells (P := P) b o cs 0 w (by simpa using hc) (by simpa using hf) h1
  cases hq : P.info? elem with
  | none => simp [hq] at hs
  | some i =>
    have hi : i.size = sz := by simpa [hq] using hs
    simp [Builtin.copy_, run_underlying hu, Builtin.lenOf, Builtin.firstCells, sizeOf, typeInfo, hq, hi, ← hn, hl, hst]
/-- copy(d[i:], s). -/
theorem run_copyE {w : World} {T e : TypeId} (hT : P.underlying T = some (.slice e)) (hs : (P.info? e).map (·.size) = some E.k) {B g n cap : Nat} {xs : List α} (h : RowE E w B e (.slice (some ⟨g, 0, none⟩) n cap) xs) (i : Nat) (dl dc : Nat) (hi : i + dl ≤ cap)
    (ao : Option Addr) (m c2 : Nat) (ys : List α) (hv : SeesE E w (.slice ao ys.length c2) ys) (hy : Nat.min m dl = ys.length) (ty : TypeId) :
    (Builtin.copy_ #[T, T] ty #[.slice (some ⟨g, i * E.k, none⟩) dl dc, .slice ao m c2]).run P w = .ok (goInt ys.length) (w.setCells g (i * E.k) (E.flat ys)) := by
  obtain ⟨ao', c2', e0, h1, h2, h3, h4⟩ := hv
  injection e0 with e1 _ e2
  subst e1 e2
  have hyl : ys.length ≤ dl := by rw [← hy]; exact Nat.min_le_right _ _
  have hcell : ∀ j, j < (E.flat ys).length → (w.cell? ⟨g, i * E.k + j, none⟩).isSome = true ∧ w.frozen? ⟨g, i * E.k + j, none⟩ = false := fun j hj => rowE_cell h _ (by
    rw [E.flat_len] at hj
    have : (i + ys.length) * E.k ≤ cap * E.k := Nat.mul_le_mul_right _ (by omega)
    rw [Nat.add_mul] at this
    omega)
  cases hys : ys with
  | nil =>
    subst hys
    have hl : ∀ (x : Addr), (loadCells x 0).run P w = .ok #[] w := fun x => by simpa using run_loadCells_list (P := P) w x [] (by simp)
    simp only [List.length_nil] at hy
    cases hq : P.info? e with
    | none => simp [hq] at hs
    | some i0 =>
      cases ao <;> simp [Builtin.copy_, run_underlying hT, Builtin.lenOf, Builtin.firstCells, sizeOf, typeInfo, hq, hy, storeCells, hl, Enc.flat, World.setCells]
  | cons y r =>
    rw [← hys]
    obtain ⟨b, off, e1, _, hh⟩ := h4 (by rw [hys]; simp)
    subst e1
    have := run_copyK (P := P) w T T ty e E.k g (i * E.k) dl dc ⟨b, off, none⟩ m c2 (E.flat ys) hT hs (by rw [hy, E.flat_len]) (fun j v hj => by rw [Addr.add_lit]; exact hh j v hj) (fun j hj => (hcell j hj).1) (fun j hj => (hcell j hj).2) (E.flat_one ys)
    rw [hy] at this
    exact this
theorem wp_copyE {w : World} {T e : TypeId} (hT : P.underlying T = some (.slice e)) (hs : (P.info? e).map (·.size) = some E.k) {o : Oper} {a : Act} {K : Act → World → Prop} {Q : Exit → Act → World → Prop} (d s : Operand)
    (ho : o.op = .call { callee := .builtin .copy, args := #[d, s], argTypes := #[T, T] }) {B g n cap : Nat} {xs : List α} (h : RowE E w B e (.slice (some ⟨g, 0, none⟩) n cap) xs) (i : Nat) (dl dc : Nat) (hi : i + dl ≤ cap) (hin : i ≤ n)
    (hd : a.eval d = .slice (some ⟨g, i * E.k, none⟩) dl dc) (ao : Option Addr) (m c2 : Nat) (hx : a.eval s = .slice ao m c2) (ys : List α) (hv : SeesE E w (.slice ao ys.length c2) ys) (hy : Nat.min m dl = ys.length) (N : Nat) (hN : N = max n (i + ys.length))
    (hK : ∀ w', RowE E w' B e (.slice (some ⟨g, 0, none⟩) N cap) (xs.take i ++ ys ++ xs.drop (i + ys.length)) → w.grownBy w' (some g) → K (a.put o.dst (goInt ys.length)) w') : o.wp P a w K Q := by
  have hr := fun ty => run_copyE (P := P) hT hs h i dl dc hi ao m c2 ys hv hy ty
  have hyl : ys.length ≤ dl := by rw [← hy]; exact Nat.min_le_right _ _
  unfold Oper.wp execOp
  simp only [ho, resolve, invoke, builtin, Sem.run_bind, Sem.run_pure, Result.andThen_ok, List.map_toArray, List.map_cons, List.map_nil, hd, hx, hr]
  exact hK _ (rowE_over h i ys hin (by omega) N hN) (grown_setCells _ _ _ _)
/-- The same, for a walk that takes the run from its context. -/
theorem run_copyW {w : World} {T e : TypeId} (hT : P.underlying T = some (.slice e)) (hs : (P.info? e).map (·.size) = some E.k) {B g n cap : Nat} {xs : List α} (h : RowE E w B e (.slice (some ⟨g, 0, none⟩) n cap) xs) (i : Nat) (dl dc : Nat) (hi : i + dl ≤ cap) (hin : i ≤ n)
    (ao : Option Addr) (m c2 : Nat) (ys : List α) (hv : SeesE E w (.slice ao ys.length c2) ys) (hy : Nat.min m dl = ys.length) (N : Nat) (hN : N = max n (i + ys.length)) :
    ∃ w', (∀ ty, (Builtin.copy_ #[T, T] ty #[.slice (some ⟨g, i * E.k, none⟩) dl dc, .slice ao m c2]).run P w = .ok (goInt ys.length) w') ∧ RowE E w' B e (.slice (some ⟨g, 0, none⟩) N cap) (xs.take i ++ ys ++ xs.drop (i + ys.length)) ∧ w.grownBy w' (some g) :=
  ⟨_, fun ty => run_copyE (P := P) hT hs h i dl dc hi ao m c2 ys hv hy ty, rowE_over h i ys hin (by have hyl : ys.length ≤ dl := by rw [← hy]; exact Nat.min_le_right _ _
                                                                                                    omega) N hN, grown_setCells _ _ _ _⟩
theorem step_copyE {w : World} {T e : TypeId} (hT : P.underlying T = some (.slice e)) (hs : (P.info? e).map (·.size) = some E.k) {ops : Array Oper} {o : Oper} {a : Act} {K : Act → World → Prop} {Q : Exit → Act → World → Prop} {F : Prop} (hgd : o.guard = none) (d s : Operand)
    (ho : o.op = .call { callee := .builtin .copy, args := #[d, s], argTypes := #[T, T] }) {B g n cap : Nat} {xs : List α} (h : RowE E w B e (.slice (some ⟨g, 0, none⟩) n cap) xs) (i : Nat) (dl dc : Nat) (hi : i + dl ≤ cap) (hin : i ≤ n)
    (hd : a.eval d = .slice (some ⟨g, i * E.k, none⟩) dl dc) (ao : Option Addr) (m c2 : Nat) (hx : a.eval s = .slice ao m c2) (ys : List α) (hv : SeesE E w (.slice ao ys.length c2) ys) (hy : Nat.min m dl = ys.length) (N : Nat) (hN : N = max n (i + ys.length))
    (hK : ∀ w', RowE E w' B e (.slice (some ⟨g, 0, none⟩) N cap) (xs.take i ++ ys ++ xs.drop (i + ys.length)) → w.grownBy w' (some g) → K (a.put o.dst (goInt ys.length)) w') : if Region.wanted o (yielded ops a.tmps) = true then Oper.wp P o a w K Q else F := by
  have hw : Region.wanted o (yielded ops a.tmps) = true := by simp [Region.wanted, hgd]
  rw [if_pos hw]
  exact wp_copyE hT hs d s ho h i dl dc hi hin hd ao m c2 hx ys hv hy N hN hK
/-- clear(s[i:j]) behind a row's elements. -/
theorem run_clearE {w : World} {T e : TypeId} {z : Value} (hT : P.underlying T = some (.slice e)) (hz : ∀ w, (zeroValue e).run P w = .ok z w) (hzc : ∀ u ∈ z.cells.toList, u.oneCell' = true) (hzs : z.cells.size = E.k) {B g n cap : Nat} {xs : List α}
    (h : RowE E w B e (.slice (some ⟨g, 0, none⟩) n cap) xs) (i : Nat) (dl dc : Nat) (hi : i + dl ≤ cap) (hin : n ≤ i) :
    ∃ w', (∀ ty, (Builtin.clear_ #[T] ty #[.slice (some ⟨g, i * E.k, none⟩) dl dc]).run P w = .ok (.tuple #[]) w') ∧ RowE E w' B e (.slice (some ⟨g, 0, none⟩) n cap) xs ∧ w.grownBy w' (some g) := by
  cases dl with
  | zero => exact ⟨w, fun ty => by simp [Builtin.clear_, run_underlying hT], h, ⟨rfl, rfl, rfl, Nat.le_refl _, fun _ _ _ => rfl⟩⟩
  | succ m =>
    obtain ⟨L, hL⟩ : ∃ L, L = (Builtin.zeroCells z.cells (m + 1)).toList := ⟨_, rfl⟩
    have hp := E.pos
    have hll : L.length = (m + 1) * E.k := by rw [hL, Array.length_toList]; simp [Builtin.zeroCells, hzs]
    have h1 : ∀ u ∈ L, u.oneCell' = true := by
      intro u hu
      obtain ⟨j, hj, rfl⟩ := List.mem_iff_getElem.1 hu
      have hs0 : 0 < z.cells.size := by omega
      have hmod : j % z.cells.size < z.cells.size := Nat.mod_lt _ hs0
      have : L[j] = z.cells[j % z.cells.size] := by
        simp only [hL, Builtin.zeroCells, Array.getElem_toList, Array.getElem_map, Array.getElem_range]
        rw [getElem!_pos z.cells _ hmod]
      rw [this]
      exact hzc _ (by simp)
    have hcell : ∀ j, j < L.length → (w.cell? ⟨g, i * E.k + j, none⟩).isSome = true ∧ w.frozen? ⟨g, i * E.k + j, none⟩ = false := fun j hj => rowE_cell h _ (by
      rw [hll] at hj
      have : (i + (m + 1)) * E.k ≤ cap * E.k := Nat.mul_le_mul_right _ hi
      rw [Nat.add_mul] at this
      omega)
    have hst := run_storeCells_cells (P := P) g (i * E.k) L 0 w (by simpa using fun j hj => (hcell j hj).1) (by simpa using fun j hj => (hcell j hj).2) h1
    simp only [Nat.add_zero] at hst
    refine ⟨w.setCells g (i * E.k) L, ?_, rowE_spare h _ _ (Nat.mul_le_mul_right _ hin), grown_setCells _ _ _ _⟩
    intro ty
    simp [Builtin.clear_, run_underlying hT, hz, ← hL, hst]
/-- append onto a row's first i elements, where there is room. -/
theorem wp_roomE {w : World} {T e : TypeId} (hT : P.underlying T = some (.slice e)) (hs : (P.info? e).map (·.size) = some E.k) {o : Oper} {a : Act} {K : Act → World → Prop} {Q : Exit → Act → World → Prop} (s x : Operand)
    (ho : o.op = .call { callee := .builtin .append, args := #[s, x], argTypes := #[T, T] }) {B g n cap : Nat} {xs : List α} (h : RowE E w B e (.slice (some ⟨g, 0, none⟩) n cap) xs)
    (hd : a.eval s = .slice (some ⟨g, 0, none⟩) n cap) (sv : Value) (hx : a.eval x = sv) (ys : List α) (hv : SeesE E w sv ys) (hy : n + ys.length ≤ cap)
    (hK : ∀ w', RowE E w' B e (.slice (some ⟨g, 0, none⟩) (n + ys.length) cap) (xs ++ ys) → w.grownBy w' (some g) → K (a.put o.dst (.slice (some ⟨g, 0, none⟩) (n + ys.length) cap)) w') : o.wp P a w K Q := by
  obtain ⟨ao, c2, rfl, h1, h2, h3, h4⟩ := hv
  have hcell : ∀ j, j < (E.flat ys).length → (w.cell? ⟨g, n * E.k + j, none⟩).isSome = true ∧ w.frozen? ⟨g, n * E.k + j, none⟩ = false := fun j hj => rowE_cell h _ (by
    rw [E.flat_len] at hj
    have : (n + ys.length) * E.k ≤ cap * E.k := Nat.mul_le_mul_right _ (by omega)
    rw [Nat.add_mul] at this
    omega)
  have hn := (rowE_un h).2.1
  have hrow := rowE_over h n ys (Nat.le_refl _) hy (n + ys.length) (by omega)
  rw [show xs.take n = xs by rw [hn, List.take_length], show xs.drop (n + ys.length) = [] from List.drop_eq_nil_of_le (by omega), List.append_nil] at hrow
  have hl := E.flat_len ys
  have hone := E.flat_one ys
  cases hq : P.info? e with
  | none => simp [hq] at hs
  | some i0 =>
    have hi : i0.size = E.k := by simpa [hq] using hs
    have hsrc : Src P i0.size T (.slice ao ys.length c2) ys.length (E.flat ys) w := by
      rw [hi]
      by_cases h0 : 0 < ys.length
      · obtain ⟨b, off, e1, _, hh⟩ := h4 h0
        subst e1
        exact Src.ofSlice w hT ⟨b, off, none⟩ ys.length c2 (E.flat ys) hl (fun j u hj => by rw [Addr.add_lit]; exact hh j u hj) hone
      · have : ys = [] := List.eq_nil_of_length_eq_zero (by omega)
        subst this
        cases ao with
        | none => exact Src.ofNil w hT c2
        | some ad => exact Src.ofSlice w hT ad 0 c2 [] (by simp) (by simp) (by simp)
    have hr := fun ty => run_append_room_src (P := P) w T T ty e i0 hT hq g 0 n cap (.slice ao ys.length c2) ys.length (E.flat ys) hsrc hy (by rw [hi, Nat.zero_add]; exact fun j hj => (hcell j hj).1) (by rw [hi, Nat.zero_add]; exact fun j hj => (hcell j hj).2)
    rw [hi, Nat.zero_add] at hr
    unfold Oper.wp execOp
    simp only [ho, resolve, invoke, builtin, Sem.run_bind, Sem.run_pure, Result.andThen_ok, List.map_toArray, List.map_cons, List.map_nil, hd, hx, hr]
    exact hK _ hrow (grown_setCells _ _ _ _)
theorem wpList_roomE {w : World} {T e : TypeId} (hT : P.underlying T = some (.slice e)) (hs : (P.info? e).map (·.size) = some E.k) {ops : Array Oper} {rest : List Oper} {o : Oper} {a : Act} {Q : Exit → Act → World → Prop} (hgd : o.guard = none) (s x : Operand)
    (ho : o.op = .call { callee := .builtin .append, args := #[s, x], argTypes := #[T, T] }) {B g n cap : Nat} {xs : List α} (h : RowE E w B e (.slice (some ⟨g, 0, none⟩) n cap) xs)
    (hd : a.eval s = .slice (some ⟨g, 0, none⟩) n cap) (sv : Value) (hx : a.eval x = sv) (ys : List α) (hv : SeesE E w sv ys) (hy : n + ys.length ≤ cap)
    (hK : ∀ w', RowE E w' B e (.slice (some ⟨g, 0, none⟩) (n + ys.length) cap) (xs ++ ys) → w.grownBy w' (some g) → wpList P ops Q rest (a.put o.dst (.slice (some ⟨g, 0, none⟩) (n + ys.length) cap)) w') : wpList P ops Q (o :: rest) a w :=
  wpList_plain hgd fun _ hK' => wp_roomE hT hs s x ho h hd sv hx ys hv hy fun w' h1 h2 => hK' _ _ (hK w' h1 h2)
theorem step_roomE {w : World} {T e : TypeId} (hT : P.underlying T = some (.slice e)) (hs : (P.info? e).map (·.size) = some E.k) {ops : Array Oper} {o : Oper} {a : Act} {K : Act → World → Prop} {Q : Exit → Act → World → Prop} {F : Prop} (hgd : o.guard = none) (s x : Operand)
    (ho : o.op = .call { callee := .builtin .append, args := #[s, x], argTypes := #[T, T] }) {B g n cap : Nat} {xs : List α} (h : RowE E w B e (.slice (some ⟨g, 0, none⟩) n cap) xs)
    (hd : a.eval s = .slice (some ⟨g, 0, none⟩) n cap) (sv : Value) (hx : a.eval x = sv) (ys : List α) (hv : SeesE E w sv ys) (hy : n + ys.length ≤ cap)
    (hK : ∀ w', RowE E w' B e (.slice (some ⟨g, 0, none⟩) (n + ys.length) cap) (xs ++ ys) → w.grownBy w' (some g) → K (a.put o.dst (.slice (some ⟨g, 0, none⟩) (n + ys.length) cap)) w') : if Region.wanted o (yielded ops a.tmps) = true then Oper.wp P o a w K Q else F := by
  have hw : Region.wanted o (yielded ops a.tmps) = true := by simp [Region.wanted, hgd]
  rw [if_pos hw]
  exact wp_roomE hT hs s x ho h hd sv hx ys hv hy hK
/-- append of k zero values where there is no room. -/
theorem wpList_zerosE {w : World} {T Tn e : TypeId} {z : Value} {bytes : Nat} (hT : P.underlying T = some (.slice e)) (hTn : P.underlying Tn = some (.int .i64)) (hI : (P.info? e).map (fun i => (i.zero, i.size, i.bytes)) = some (some z, E.k, bytes)) (zr : α) (hzr : z.cells.toList = E.c zr) {ops : Array Oper} {rest : List Oper} {o : Oper} {a : Act} {Q : Exit → Act → World → Prop} (hgd : o.guard = none) (s x : Operand)
    (ho : o.op = .call { callee := .builtin .append, args := #[s, x], argTypes := #[T, Tn] }) {B g n cap : Nat} {xs : List α} (h : RowE E w B e (.slice (some ⟨g, 0, none⟩) n cap) xs)
    (hd : a.eval s = .slice (some ⟨g, 0, none⟩) n cap) (k : Nat) (kv : Int) (hkv : kv = (k : Int)) (hx : a.eval x = .int .i64 kv) (N : Nat) (hN : N = n + k) (h0 : 0 < k) (hroom : cap < n + k) (hbig : (n + k) * bytes ≤ 140737488355328) (hm : n + k ≤ maxLen) (hB : B ≤ w.heap.size)
    (hK : ∀ c' w', RowE E w' B e (.slice (some ⟨w.heap.size, 0, none⟩) N c') (xs ++ List.replicate k zr) → Below w.heap.size w w' → wpList P ops Q rest (a.put o.dst (.slice (some ⟨w.heap.size, 0, none⟩) N c')) w') : wpList P ops Q (o :: rest) a w := by
  subst hkv hN
  refine wpList_plain hgd fun K hK' => ?_
  obtain ⟨i0, hi, hz0, hz1, hz2⟩ := info_partsV hI
  have hsee := h.sees
  have hn := (rowE_un h).2.1
  have hold : (Builtin.firstCells i0.size n (.slice (some ⟨g, 0, none⟩) n cap)).run P w.drew = .ok (E.flat xs).toArray w.drew := by
    rw [hz1]
    refine run_firstCells_some w.drew E.k n ⟨g, 0, none⟩ n cap (E.flat xs) (by rw [E.flat_len, hn]) (fun j v hj => ?_)
    rw [Addr.add_lit]
    obtain ⟨ao, c2, e1, _, _, _, h4⟩ := hsee
    have hpos : 0 < xs.length := by
      have := (List.getElem?_eq_some_iff.1 hj).1
      rw [E.flat_len] at this
      cases hl : xs.length with
      | zero => rw [hl, Nat.zero_mul] at this; omega
      | succ m => omega
    obtain ⟨b, off, e2, _, hh⟩ := h4 hpos
    injection e1 with e1 _ _
    rw [e2] at e1
    injection e1 with e1
    injection e1 with e3 e4
    subst e3 e4
    exact hh j v hj
  have hkb : k * i0.bytes ≤ 281474976710656 := by
    rw [hz2]
    have : k * bytes ≤ (n + k) * bytes := Nat.mul_le_mul_right _ (by omega)
    omega
  have hr := fun ty => Lib.run_append_grow_zeros w T Tn ty e i0 z .i64 .i64 hT hTn hi hz0 (some ⟨g, 0, none⟩) n cap (E.flat xs) hold k h0 (by rw [hz1]; exact E.pos) hroom (by unfold maxLen at hm; omega) hkb (by rw [hz2]; exact growslice_fits hroom hbig)
  unfold Oper.wp execOp
  simp only [ho, resolve, invoke, builtin, Sem.run_bind, Sem.run_pure, Result.andThen_ok, List.map_toArray, List.map_cons, List.map_nil, hd, hx, hr]
  refine hK' _ _ (hK _ _ ?_ ?_)
  · have hzl : z.cells.size = E.k := by rw [← Array.length_toList, hzr, E.len]
    have hzc : ∀ m, (Builtin.zeroCells z.cells m).toList = E.flat (List.replicate m zr) := by
      intro m
      apply List.ext_getElem
      · rw [Array.length_toList, size_zeroCells, E.flat_len, List.length_replicate, hzl]
      · intro j h1 h2
        rw [E.flat_len, List.length_replicate] at h2
        have hkp := E.pos
        have hd1 : j / E.k < m := Nat.div_lt_of_lt_mul (by rw [Nat.mul_comm]; exact h2)
        have hmod : j % E.k < E.k := Nat.mod_lt _ hkp
        have hf := E.flat_at (List.replicate m zr) (j / E.k) (by simpa using hd1) (j % E.k) hmod
        rw [show j / E.k * E.k + j % E.k = j by rw [Nat.mul_comm]; exact Nat.div_add_mod j E.k] at hf
        have h3 : (E.flat (List.replicate m zr))[j]? = some (E.flat (List.replicate m zr))[j] := List.getElem?_eq_getElem (by rw [E.flat_len, List.length_replicate]; exact h2)
        rw [h3] at hf
        have h4 : (E.c zr)[j % E.k]? = some ((E.c zr)[j % E.k]'(by rw [E.len]; exact hmod)) := List.getElem?_eq_getElem (by rw [E.len]; exact hmod)
        rw [List.getElem_replicate, h4] at hf
        injection hf with hf
        rw [hf]
        simp only [Builtin.zeroCells, Array.getElem_toList, Array.getElem_map, Array.getElem_range]
        rw [getElem!_pos z.cells (j % z.cells.size) (Nat.mod_lt _ (by omega))]
        have : (z.cells[j % z.cells.size]'(Nat.mod_lt _ (by omega))) = (z.cells.toList[j % E.k]'(by rw [hzr, E.len]; exact hmod)) := by
          simp only [Array.getElem_toList, hzl]
        rw [this]
        simp only [hzr]
    have hge := grownCap_ge w (n + k) cap e
    have hcur : ∃ cur : Array Value, cur = (E.flat xs).toArray ++ Builtin.zeroCells z.cells k ++ Builtin.zeroCells z.cells (grownCap w (n + k) cap e - (n + k)) := ⟨_, rfl⟩
    obtain ⟨cur, hcur⟩ := hcur
    rw [← hcur]
    have hheap : (w.drew.alloc (.cells cur e)).heap[w.heap.size]? = some (.cells cur e) := (MapKept.heap_alloc w.drew _).1
    have hlen : (E.flat xs).length = n * E.k := by rw [E.flat_len, hn]
    refine rowE_mk hheap hB (by simp; omega) hge (grownCap_le_maxLen w _ _ _ hm) ?_ ?_
    · rw [hcur]
      simp only [Array.size_append, size_zeroCells, hzl, List.size_toArray, hlen]
      rw [← Nat.add_mul, ← Nat.add_mul]
      congr 1
      omega
    · rw [hcur, E.flat_app, ← hzc k]
      simp only [Array.toList_append]
      rw [List.take_append_of_le_length (by simp [size_zeroCells, hzl, hlen, Nat.add_mul])]
      exact List.take_of_length_le (by simp [size_zeroCells, hzl, hlen, Nat.add_mul])
  · exact (bel_newG w.drew _) |> fun h => ⟨h.os, h.tape, h.output, h.size, h.block⟩
end
end Go.Proofs.Ytbkciencikdacaa.Kit
