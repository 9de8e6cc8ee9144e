/- append onto a row of structs, and where the outcome lies. (No program in it.) -/
import Derived.Test.YtbkciencikdacaaKitSc
namespace Go.Proofs.Ytbkciencikdacaa.Kit
open Go.ChangeShapes Go.WideShapes Go.ChangeAt Go.RowKit
set_option linter.unusedVariables false
section
variable {α : Type} {E : Enc α} {P : Program}
theorem src_sees {w : World} {T e : TypeId} (hT : P.underlying T = some (.slice e)) {ao : Option Addr} {c2 : Nat} {ys : List α} (hv : SeesE E w (.slice ao ys.length c2) ys) : Src P E.k T (.slice ao ys.length c2) ys.length (E.flat ys) w := by
  obtain ⟨ao', c2', e0, h1, h2, h3, h4⟩ := hv
  injection e0 with e1 _ e2
  subst e1 e2
  by_cases h0 : 0 < ys.length
  · obtain ⟨b, off, e1, _, hh⟩ := h4 h0
    subst e1
    exact Src.ofSlice w hT ⟨b, off, none⟩ ys.length c2 (E.flat ys) (E.flat_len ys) (fun j u hj => by rw [Addr.add_lit]; exact hh j u hj) (E.flat_one ys)
  · have : ys = [] := List.eq_nil_of_length_eq_zero (by omega)
    subst this
    cases ao with
    | none => exact Src.ofNil w hT c2
    | some ad => exact Src.ofSlice w hT ad 0 c2 [] (by simp) (by simp) (by simp)
theorem wp_growE {w : World} {T e : TypeId} {z : Value} {bytes : Nat} (hT : P.underlying T = some (.slice e)) (hI : (P.info? e).map (fun i => (i.zero, i.size, i.bytes)) = some (some z, E.k, bytes)) (hzc : z.cells.size = E.k) {o : Oper} {a : Act} {K : Act → World → Prop} {Q : Exit → Act → World → Prop} (s x : Operand)
    (ho : o.op = .call { callee := .builtin .append, args := #[s, x], argTypes := #[T, T] }) {B g n cap : Nat} {xs : List α} (h : RowE E w B e (.slice (some ⟨g, 0, none⟩) n cap) xs)
    (hd : a.eval s = .slice (some ⟨g, 0, none⟩) n cap) (sv : Value) (hx : a.eval x = sv) (ys : List α) (hv : SeesE E w sv ys) (hroom : cap < n + ys.length) (hbig : (n + ys.length) * bytes ≤ 140737488355328) (hm : n + ys.length ≤ maxLen) (hB : B ≤ w.heap.size)
    (hK : ∀ c' w', RowE E w' B e (.slice (some ⟨w.heap.size, 0, none⟩) (n + ys.length) c') (xs ++ ys) → Below w.heap.size w w' → K (a.put o.dst (.slice (some ⟨w.heap.size, 0, none⟩) (n + ys.length) c')) w') : o.wp P a w K Q := by
  obtain ⟨ao, c2, rfl⟩ := hv.form
  obtain ⟨i0, hi, hz0, hz1, hz2⟩ := info_partsV hI
  have hsee := h.sees
  have hn := (rowE_un h).2.1
  have hsrc := src_sees hT hv
  rw [← hz1] at hsrc
  have hold : (Builtin.firstCells i0.size n (.slice (some ⟨g, 0, none⟩) n cap)).run P w.drew = .ok (E.flat xs).toArray w.drew := by
    rw [hz1]
    have := (src_sees (P := P) hT (E := E) (w := w) (ao := some ⟨g, 0, none⟩) (c2 := cap) (ys := xs) (by rw [← hn]; exact hsee)).cellsD
    rw [← hn] at this
    exact this
  have hr := fun ty => run_append_grow_src (P := P) w T T ty e i0 z hT hi hz0 (some ⟨g, 0, none⟩) n cap (E.flat xs) hold (.slice ao ys.length c2) ys.length (E.flat ys) hsrc hroom (by unfold maxLen at hm; omega) (by rw [hz2]; exact growslice_fits hroom hbig)
  unfold Oper.wp execOp
  simp only [ho, resolve, invoke, builtin, Sem.run_bind, Sem.run_pure, Result.andThen_ok, List.map_toArray, List.map_cons, List.map_nil, hd, hx, hr]
  have hge := grownCap_ge w (n + ys.length) cap e
  obtain ⟨cur, hcur⟩ : ∃ cur : Array Value, cur = (E.flat xs ++ E.flat ys).toArray ++ Builtin.zeroCells z.cells (grownCap w (n + ys.length) cap e - (n + ys.length)) := ⟨_, rfl⟩
  rw [← hcur]
  have hlen : (E.flat xs ++ E.flat ys).length = (n + ys.length) * E.k := by rw [List.length_append, E.flat_len, E.flat_len, ← hn, Nat.add_mul]
  have hheap : (w.drew.alloc (.cells cur e)).heap[w.heap.size]? = some (.cells cur e) := (MapKept.heap_alloc w.drew _).1
  refine hK _ _ (rowE_mk hheap hB (by rw [List.length_append, hn]) hge (grownCap_le_maxLen w _ _ _ hm) ?_ ?_) ((bel_newG w.drew _) |> fun h => ⟨h.os, h.tape, h.output, h.size, h.block⟩)
  · rw [hcur]
    simp only [Array.size_append, size_zeroCells, hzc, List.size_toArray, hlen]
    rw [← Nat.add_mul]
    congr 1
    omega
  · rw [hcur, E.flat_app]
    simp only [Array.toList_append]
    rw [List.take_append_of_le_length (by rw [hlen]; exact Nat.le_refl _)]
    exact List.take_of_length_le (by rw [hlen]; exact Nat.le_refl _)
/-- append: where the outcome lies. -/
theorem wp_appF {w : World} {T e : TypeId} {z : Value} {bytes : Nat} (hT : P.underlying T = some (.slice e)) (hI : (P.info? e).map (fun i => (i.zero, i.size, i.bytes)) = some (some z, E.k, bytes)) (hzc : z.cells.size = E.k) {o : Oper} {a : Act} {K : Act → World → Prop} {Q : Exit → Act → World → Prop} (s x : Operand)
    (ho : o.op = .call { callee := .builtin .append, args := #[s, x], argTypes := #[T, T] }) (base : Nat) (v : Value) (xs : List α) (hs : a.eval s = v) (hown : RowE E w base e v xs)
    (y : Value) (news : List α) (hx : a.eval x = y) (hv : SeesE E w y news) (hm : xs.length + news.length ≤ maxLen) (hlen : (xs.length + news.length) * bytes ≤ 140737488355328) (hbase : base ≤ w.heap.size)
    (h : ∀ v' w', RowE E w' base e v' (xs ++ news) → w.grownBy w' v.ownBlock → (∀ k, v'.ownBlock = some k → v.ownBlock = some k ∨ w.heap.size ≤ k) → K (a.put o.dst v') w') : o.wp P a w K Q := by
  have hown' := hown
  obtain ⟨h1, h2⟩ := hown'
  rcases h2 with ⟨rfl, h2⟩ | ⟨g, cap, cur, rfl, hg, _⟩
  · have hnil : xs = [] := List.eq_nil_of_length_eq_zero h2
    subst hnil
    exact wp_appE hT hI hzc s x ho w.heap.size _ [] hs (rowE_nil E w _ e) y news hx hv hm hlen (Nat.le_refl _) fun v' w' k1 k2 => h v' w' (k1.mono hbase) k2 fun k hk => .inr (k1.block k hk)
  · have hsz : (P.info? e).map (·.size) = some E.k := by
      obtain ⟨i0, hi, _, hz1, _⟩ := info_partsV hI
      rw [hi]; simp [hz1]
    by_cases hroom : xs.length + news.length ≤ cap
    · exact wp_roomE hT hsz s x ho hown hs y hx news hv hroom fun w' k1 k2 => h _ w' k1 k2 fun k hk => .inl hk
    · exact wp_growE hT hI hzc s x ho hown hs y hx news hv (by omega) hlen hm hbase fun c' w' k1 k2 => h _ w' k1 ⟨k2.os, k2.tape, k2.output, k2.size, fun k hk _ => k2.block k hk⟩ fun k hk => .inr (by simp [Value.ownBlock] at hk; omega)
theorem wpList_appF {w : World} {T e : TypeId} {z : Value} {bytes : Nat} (hT : P.underlying T = some (.slice e)) (hI : (P.info? e).map (fun i => (i.zero, i.size, i.bytes)) = some (some z, E.k, bytes)) (hzc : z.cells.size = E.k) {ops : Array Oper} {rest : List Oper} {o : Oper} {a : Act} {Q : Exit → Act → World → Prop} (hgd : o.guard = none) (s x : Operand)
    (ho : o.op = .call { callee := .builtin .append, args := #[s, x], argTypes := #[T, T] }) (base : Nat) (v : Value) (xs : List α) (hs : a.eval s = v) (hown : RowE E w base e v xs)
    (y : Value) (news : List α) (hx : a.eval x = y) (hv : SeesE E w y news) (hm : xs.length + news.length ≤ maxLen) (hlen : (xs.length + news.length) * bytes ≤ 140737488355328) (hbase : base ≤ w.heap.size)
    (h : ∀ v' w', RowE E w' base e v' (xs ++ news) → w.grownBy w' v.ownBlock → (∀ k, v'.ownBlock = some k → v.ownBlock = some k ∨ w.heap.size ≤ k) → wpList P ops Q rest (a.put o.dst v') w') : wpList P ops Q (o :: rest) a w :=
  wpList_plain hgd fun _ hK' => wp_appF hT hI hzc s x ho base v xs hs hown y news hx hv hm hlen hbase fun v' w' h1 h2 h3 => hK' _ _ (h v' w' h1 h2 h3)
end
theorem sees_grown {α : Type} {E : Enc α} {w w' : World} {v : Value} {xs : List α} {o : Option Nat} (h : SeesE E w v xs) (hg : w.grownBy w' o) (hne : v.ownBlock = none ∨ v.ownBlock ≠ o) : SeesE E w' v xs := by
  obtain ⟨ao, cap, h1, h2, h3, h4, h5⟩ := h
  refine ⟨ao, cap, h1, h2, h3, h4, fun h0 => ?_⟩
  obtain ⟨b, off, e, hl, hh⟩ := h5 h0
  subst h1 e
  have hb : some b ≠ o := by
    rcases hne with h | h
    · simp [Value.ownBlock] at h
    · exact h
  refine ⟨b, off, rfl, Nat.lt_of_lt_of_le hl hg.size, fun i x hx => ?_⟩
  exact hg.cell (hh i x hx) hb
theorem grown_trans {w w1 w2 : World} {o : Option Nat} (h : w.grownBy w1 o) (k : w1.grownBy w2 o) : w.grownBy w2 o :=
  ⟨k.os.trans h.os, k.tape.trans h.tape, k.output.trans h.output, Nat.le_trans h.size k.size, fun i hi hne => (k.block i (Nat.lt_of_lt_of_le hi h.size) hne).trans (h.block i hi hne)⟩
theorem grown_below {w w' : World} (o : Option Nat) (h : Below w.heap.size w w') : w.grownBy w' o := ⟨h.os, h.tape, h.output, h.size, fun k hk _ => h.block k hk⟩
end Go.Proofs.Ytbkciencikdacaa.Kit
