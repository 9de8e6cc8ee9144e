/- package extent: Put. -/
import Derived.Test.YthdmclhccbjgoaaEHole
import Derived.Test.YthdmclhccbjgoaaEJoinA
import Derived.Test.YthdmclhccbjgoaaEJoinB
import Derived.Test.YthdmclhccbjgoaaEJoinC
import Derived.Deep.RegionWith
namespace Go.Proofs.Ythdmclhccbjgoaa
open Go.RowKit Kit
set_option linter.unusedVariables false

theorem joinAt_end {i : Nat} {l : List Pc} (h : l.length ≤ i + 1) : joinAt i l = l := by
  unfold joinAt
  have : join0 (l.drop i) = l.drop i := by
    cases hd : l.drop i with
    | nil => rfl
    | cons x r =>
      have := congrArg List.length hd
      rw [List.length_drop, List.length_cons] at this
      have hr : r = [] := List.eq_nil_of_length_eq_zero (by omega)
      rw [hr]; rfl
  rw [this, List.take_append_drop]
theorem joinAt_no {i : Nat} {l : List Pc} (hi : i + 1 < l.length) (h : touchB (l[i]'(by omega)) l[i + 1] = false) : joinAt i l = l := by
  unfold joinAt
  rw [List.drop_eq_getElem_cons (by omega : i < l.length), List.drop_eq_getElem_cons hi, join0_f h, ← List.drop_eq_getElem_cons hi, ← List.drop_eq_getElem_cons (by omega : i < l.length), List.take_append_drop]
theorem joinAt_yes {i : Nat} {l : List Pc} (hi : i + 1 < l.length) (h : touchB (l[i]'(by omega)) l[i + 1] = true) : joinAt i l = l.take i ++ { (l[i]'(by omega)) with len := (l[i]'(by omega)).len + l[i + 1].len } :: l.drop (i + 2) := by
  unfold joinAt
  rw [List.drop_eq_getElem_cons (by omega : i < l.length), List.drop_eq_getElem_cons hi, join0_t h]
theorem joinAt_fits {i : Nat} {l : List Pc} (hf : Fits l) : Fits (joinAt i l) ∧ (joinAt i l).length ≤ l.length := by
  by_cases hi : i + 1 < l.length
  · cases h : touchB (l[i]'(by omega)) l[i + 1] with
    | false => rw [joinAt_no hi h]; exact ⟨hf, Nat.le_refl _⟩
    | true =>
      rw [joinAt_yes hi h]
      unfold touchB at h
      rw [decide_eq_true_eq] at h
      have f1 := hf _ (List.getElem_mem (l := l) (n := i) (by omega))
      have f2 := hf _ (List.getElem_mem (l := l) (n := i + 1) hi)
      refine ⟨fun x hx => ?_, by simp; omega⟩
      rcases List.mem_append.1 hx with hx | hx
      · exact hf x (List.mem_of_mem_take hx)
      · rcases List.mem_cons.1 hx with rfl | hx
        · unfold Fit at f1 f2 ⊢; simp only; omega
        · exact hf x (List.mem_of_mem_drop hx)
  · rw [joinAt_end (by omega)]; exact ⟨hf, Nat.le_refl _⟩
theorem ejoin_any (p B i : Nat) (v : Value) (ps : List Pc) (w : World) (hm : EMap w p B v ps) (hl : ps.length ≤ 1000) (hi : i ≤ 1000) (hf : Fits ps) :
    Calls Try.prog 43 #[.pointer (some ⟨p, 0, none⟩), .int .i64 (i : Int)] w fun e w' => e = .returned (.tuple #[]) ∧ ∃ v', EMap w' p B v' (joinAt i ps) ∧ Turn9 p v v' w w' := by
  by_cases h1 : i + 1 < ps.length
  · cases ht : touchB (ps[i]'(by omega)) ps[i + 1] with
    | true => exact ejoin_yes p B i v ps w hm hl h1 hf ht
    | false =>
      refine (ejoin_no p B i v ps w hm hl h1 hf ht).mono ?_
      rintro e w' ⟨rfl, hb⟩
      rw [joinAt_no h1 ht]
      exact ⟨rfl, v, hm.below hb, turn9_below hb⟩
  · refine (ejoin_end p B i v ps w hm hl (by omega) (by omega) (by omega)).mono ?_
    rintro e w' ⟨rfl, hb⟩
    rw [joinAt_end (by omega)]
    exact ⟨rfl, v, hm.below hb, turn9_below hb⟩
set_option maxRecDepth 4000 in
set_option maxHeartbeats 8000000 in
theorem eput_bad (p : Nat) (po pl pg pp : Int) (w : World) (h : ¬ Put9 (⟨po, pl, pg, pp⟩ : Pc)) :
    Calls Try.prog 25 #[.pointer (some ⟨p, 0, none⟩), .agg #[.int .i64 po, .int .i64 pl, .int .i64 pg, .int .i64 pp]] w fun e w' => e = .returned (.iface 72 (.int .i64 12)) ∧ Below w.heap.size w w' := by
  have HMAY : Hid (∀ n : World, Calls Try.prog 41 #[.agg #[.int .i64 po, .int .i64 pl, .int .i64 pg, .int .i64 pp]] n fun e w' => e = .returned (.bool false) ∧ Below n.heap.size n w') := fun n => (emay_any po pl pg pp n).mono fun e w' ⟨h1, h2⟩ => ⟨h1.elim (fun h3 => absurd h3.1 h) (fun h3 => h3.2), h2⟩
  clear h
  go_enter Try.func25, Try.ntmps25
  go_wp2_with fail
  go_at_call 41
  refine (HMAY.out _).mono ?_
  rintro e w1 ⟨rfl, hb1⟩
  go_wp2_with fail
  go_ret
  exact ⟨rfl, bel_tr (bel_newG _ _) hb1⟩
set_option maxRecDepth 4000 in
set_option maxHeartbeats 8000000 in
theorem eput_nil (po pl pg pp : Int) (w : World) :
    Calls Try.prog 25 #[.pointer none, .agg #[.int .i64 po, .int .i64 pl, .int .i64 pg, .int .i64 pp]] w fun e w' => e = .returned (.iface 72 (.int .i64 12)) ∧ Below w.heap.size w w' := by
  go_enter Try.func25, Try.ntmps25
  go_wp2_with fail
  go_ret
  exact ⟨rfl, bel_newG _ _⟩
end Go.Proofs.Ythdmclhccbjgoaa
