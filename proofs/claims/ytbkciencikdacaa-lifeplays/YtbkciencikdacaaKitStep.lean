/- append at a step of a region that draws its order, of values of one cell each. (No program in it.) -/
import Derived.Test.YtbkciencikdacaaKitVals
import Derived.Deep.AppendLies
namespace Go.Proofs.Ytbkciencikdacaa.Kit
open Go.ChangeShapes Go.WideShapes Go.ChangeAt Go.RowKit
set_option linter.unusedVariables false

theorem wp_appV {P : Program} {T E : TypeId} {z : Value} {bytes : Nat} (hT : P.underlying T = some (.slice E)) (hI : (P.info? E).map (fun i => (i.zero, i.size, i.bytes)) = some (some z, 1, bytes)) (hzc : z.cells.size = 1) (hby : bytes ≤ 16) {o : Oper} {a : Act} {K : Act → World → Prop} {Q : Exit → Act → World → Prop} {w : World} (s x : Operand)
    (ho : o.op = .call { callee := .builtin .append, args := #[s, x], argTypes := #[T, T] }) (base : Nat) (v : Value) (xs : List Value) (hs : a.eval s = v) (hown : RowV w base E v xs)
    (y : Value) (news : List Value) (hx : a.eval x = y) (hv : Sees w y news) (h1c : ∀ u ∈ news, u.oneCell' = true) (hlen : (xs.length + news.length) * 16 ≤ 140737488355328) (hbase : base ≤ w.heap.size)
    (h : ∀ v' w', RowV w' base E v' (xs ++ news) → Below base w w' → K (a.put o.dst v') w') : o.wp P a w K Q := by
  obtain ⟨i0, hi, hz0, hz1, hz2⟩ := info_parts hI
  have fin : ∀ v' w', w'.ownsRow base E 1 v' (xs.length + news.length) (xs ++ news) → w.grownBy w' v.ownBlock → K (a.put o.dst v') w' := by
    intro v' w' h1 h2
    refine h v' w' ?_ ((Below.refl _ _).grown h2 hbase hown.block)
    unfold RowV
    rw [List.length_append]; exact h1
  obtain ⟨ao, cap, rfl, h1, h2, h3, h4⟩ := hv
  cases ao with
  | none =>
    have hc := h3 rfl
    have hn : news = [] := List.eq_nil_of_length_eq_zero (by omega)
    subst hn
    subst hc
    have hrun := run_append_owned_none (P := P) (w := w) base T o.type E i0 1 hT hi v xs.length xs hown
    have hk := h v w (by rw [List.append_nil]; exact hown) (Below.refl _ _)
    simp only [List.length_nil] at hx
    unfold Oper.wp
    simp [execOp, ho, resolve, invoke, builtin, hs, hx, hrun, Result.andThen]
    exact hk
  | some ad =>
    refine wp_append_own w s x T ho base E i0 z 1 bytes hT hi hz0 hz1 hz2 hzc (by omega) v xs.length xs hs hown ad news.length cap news hx (by simp) ?_ h1c (by unfold maxLen; omega) (size_okV hby hlen) hbase ?_
    · intro j u hj
      have hj' : j < news.length := (List.getElem?_eq_some_iff.1 hj).1
      obtain ⟨b, off, e, _, hh⟩ := h4 (by omega)
      cases e
      rw [Addr.add_lit]
      exact hh j u hj
    · intro v' w' k1 k2 _
      exact fin v' w' k1 k2
theorem step_appV {P : Program} {T E : TypeId} {z : Value} {bytes : Nat} (hT : P.underlying T = some (.slice E)) (hI : (P.info? E).map (fun i => (i.zero, i.size, i.bytes)) = some (some z, 1, bytes)) (hzc : z.cells.size = 1) (hby : bytes ≤ 16) {ops : Array Oper} {o : Oper} {a : Act} {K : Act → World → Prop} {Q : Exit → Act → World → Prop} {F : Prop} {w : World} (hgd : o.guard = none) (s x : Operand)
    (ho : o.op = .call { callee := .builtin .append, args := #[s, x], argTypes := #[T, T] }) (base : Nat) (v : Value) (xs : List Value) (hs : a.eval s = v) (hown : RowV w base E v xs)
    (y : Value) (news : List Value) (hx : a.eval x = y) (hv : Sees w y news) (h1c : ∀ u ∈ news, u.oneCell' = true) (hlen : (xs.length + news.length) * 16 ≤ 140737488355328) (hbase : base ≤ w.heap.size)
    (h : ∀ v' w', RowV w' base E v' (xs ++ news) → Below base w w' → K (a.put o.dst v') w') : if Region.wanted o (yielded ops a.tmps) = true then Oper.wp P o a w K Q else F := by
  have hw : Region.wanted o (yielded ops a.tmps) = true := by simp [Region.wanted, hgd]
  rw [if_pos hw]
  exact wp_appV hT hI hzc hby s x ho base v xs hs hown y news hx hv h1c hlen hbase h
theorem ints_one (zs : List Int) (k : IntKind) : ∀ u ∈ zs.map (Value.int k), u.oneCell' = true := by
  intro u hu
  obtain ⟨z, _, rfl⟩ := List.mem_map.1 hu
  rfl
end Go.Proofs.Ytbkciencikdacaa.Kit
