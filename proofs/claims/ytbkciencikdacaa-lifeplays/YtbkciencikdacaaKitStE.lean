/- append of structs at a step of a region that draws its order. (No program in it.) -/
import Derived.Test.YtbkciencikdacaaKitSt2
namespace Go.Proofs.Ytbkciencikdacaa.Kit
open Go.ChangeShapes Go.WideShapes Go.ChangeAt Go.RowKit
set_option linter.unusedVariables false
set_option maxRecDepth 4000 in
theorem wp_appE {α : Type} {E : Enc α} {P : Program} {T e : TypeId} {z : Value} {bytes : Nat} (hT : P.underlying T = some (.slice e)) (hI : (P.info? e).map (fun i => (i.zero, i.size, i.bytes)) = some (some z, E.k, bytes)) (hzc : z.cells.size = E.k) {o : Oper} {a : Act} {K : Act → World → Prop} {Q : Exit → Act → World → Prop} {w : World} (s x : Operand)
    (ho : o.op = .call { callee := .builtin .append, args := #[s, x], argTypes := #[T, T] }) (base : Nat) (v : Value) (xs : List α) (hs : a.eval s = v) (hown : RowE E w base e v xs)
    (y : Value) (news : List α) (hx : a.eval x = y) (hv : SeesE E w y news) (hm : xs.length + news.length ≤ maxLen) (hlen : (xs.length + news.length) * bytes ≤ 140737488355328) (hbase : base ≤ w.heap.size)
    (h : ∀ v' w', RowE E w' base e v' (xs ++ news) → w.grownBy w' v.ownBlock → K (a.put o.dst v') w') : o.wp P a w K Q := by
  obtain ⟨i0, hi, hz0, hz1, hz2⟩ := info_partsV hI
  obtain ⟨ao, cap, rfl, h1, h2, h3, h4⟩ := hv
  cases ao with
  | none =>
    have hc := h3 rfl
    have hn : news = [] := List.eq_nil_of_length_eq_zero (by omega)
    subst hn
    subst hc
    have hrun := run_append_owned_none (P := P) (w := w) base T o.type e i0 E.k hT hi v xs.length (E.flat xs) hown
    have hk := h v w (by rw [List.append_nil]; exact hown) ⟨rfl, rfl, rfl, Nat.le_refl _, fun _ _ _ => rfl⟩
    simp only [List.length_nil] at hx
    unfold Oper.wp
    simp [execOp, ho, resolve, invoke, builtin, hs, hx, hrun, Result.andThen]
    exact hk
  | some ad =>
    refine wp_append_own w s x T ho base e i0 z E.k bytes hT hi hz0 hz1 hz2 hzc E.pos v xs.length (E.flat xs) hs hown ad news.length cap (E.flat news) hx (E.flat_len news) ?_ (E.flat_one news) hm hlen hbase ?_
    · intro j u hj
      have hj' : j < (E.flat news).length := (List.getElem?_eq_some_iff.1 hj).1
      have h0 : 0 < news.length := by
        rw [E.flat_len] at hj'
        cases hn : news.length with
        | zero => rw [hn, Nat.zero_mul] at hj'; omega
        | succ n => omega
      obtain ⟨b, off, e2, _, hh⟩ := h4 h0
      cases e2
      rw [Addr.add_lit]
      exact hh j u hj
    · intro v' w' k1 k2 _
      refine h v' w' ?_ k2
      unfold RowE
      rw [List.length_append, E.flat_app]; exact k1
theorem step_appE {α : Type} {E : Enc α} {P : Program} {T e : TypeId} {z : Value} {bytes : Nat} (hT : P.underlying T = some (.slice e)) (hI : (P.info? e).map (fun i => (i.zero, i.size, i.bytes)) = some (some z, E.k, bytes)) (hzc : z.cells.size = E.k) {ops : Array Oper} {o : Oper} {a : Act} {K : Act → World → Prop} {Q : Exit → Act → World → Prop} {F : Prop} {w : World} (hgd : o.guard = none) (s x : Operand)
    (ho : o.op = .call { callee := .builtin .append, args := #[s, x], argTypes := #[T, T] }) (base : Nat) (v : Value) (xs : List α) (hs : a.eval s = v) (hown : RowE E w base e v xs)
    (y : Value) (news : List α) (hx : a.eval x = y) (hv : SeesE E w y news) (hm : xs.length + news.length ≤ maxLen) (hlen : (xs.length + news.length) * bytes ≤ 140737488355328) (hbase : base ≤ w.heap.size)
    (h : ∀ v' w', RowE E w' base e v' (xs ++ news) → w.grownBy w' v.ownBlock → K (a.put o.dst v') w') : if Region.wanted o (yielded ops a.tmps) = true then Oper.wp P o a w K Q else F := by
  have hw : Region.wanted o (yielded ops a.tmps) = true := by simp [Region.wanted, hgd]
  rw [if_pos hw]
  exact wp_appE hT hI hzc s x ho base v xs hs hown y news hx hv hm hlen hbase h
/-- The literal of no element. -/
theorem rowE_empty {α : Type} (E : Enc α) (w : World) (e : TypeId) (base H : Nat) (hH : w.heap.size = H) (hb : base ≤ w.heap.size) : RowE E (w.alloc (.cells #[] e)) base e (.slice (some ⟨H, 0, none⟩) 0 0) [] := by
  subst hH
  have := World.ownsRow_lit (size := E.k) (e := e) (base := base) w #[] 0 hb (by simp) (by simp)
  exact this
end Go.Proofs.Ytbkciencikdacaa.Kit
