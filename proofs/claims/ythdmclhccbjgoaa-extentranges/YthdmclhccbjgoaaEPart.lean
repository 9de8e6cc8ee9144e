/- package extent: part and mayBePut. -/
import Derived.Test.YthdmclhccbjgoaaEFns
import Derived.Test.YthdmclhccbjgoaaRPut
namespace Go.Proofs.Ythdmclhccbjgoaa
open Go.RowKit Kit
set_option linter.unusedVariables false

set_option maxRecDepth 4000 in
set_option maxHeartbeats 4000000 in
theorem epart_any (po pl pg pp a b : Int) (w : World) (h0 : 0 ≤ po) (h1 : po ≤ 8589934592) (h2 : 0 ≤ pp) (h3 : pp ≤ 8589934592) (h4 : 0 ≤ a) (h5 : a ≤ 8589934592) (h6 : 0 ≤ b) (h7 : b ≤ 8589934592) :
    Calls Try.prog 35 #[.agg #[.int .i64 po, .int .i64 pl, .int .i64 pg, .int .i64 pp], .int .i64 a, .int .i64 b] w fun e w' => e = .returned (.agg #[.int .i64 a, .int .i64 (b - a), .int .i64 pg, .int .i64 (pp + a - po)]) ∧ Below w.heap.size w w' := by
  go_enter Try.func35, Try.ntmps35
  go_wp2
  refine bodyPost_ret (v := .agg #[.int .i64 a, .int .i64 (b - a), .int .i64 pg, .int .i64 (pp + a - po)]) (by simp [results, Try.results35, go_sem]) rfl ⟨rfl, ?_⟩
  exact bel_tr (bel_newG _ _) (bel_newG _ _)
theorem min3_is (a b c : Int) : ∃ m : Int, (m = a ∨ m = b ∨ m = c) ∧ m ≤ a ∧ m ≤ b ∧ m ≤ c ∧ ∀ (P : Program) (W : World) ats ty, (Builtin.min_ ats ty #[.int .i64 a, .int .i64 b, .int .i64 c]).run P W = .ok (.int .i64 m) W := by
  have h : ∀ x y : Int, ∃ m : Int, (m = x ∨ m = y) ∧ m ≤ x ∧ m ≤ y ∧ (if y < x then y else x) = m := fun x y => by
    by_cases h : y < x
    · exact ⟨y, .inr rfl, by omega, by omega, by rw [if_pos h]⟩
    · exact ⟨x, .inl rfl, by omega, by omega, by rw [if_neg h]⟩
  obtain ⟨m1, h1, h2, h3, h4⟩ := h a b
  obtain ⟨m2, k1, k2, k3, k4⟩ := h m1 c
  refine ⟨m2, by omega, by omega, by omega, by omega, fun P W ats ty => ?_⟩
  simp [Builtin.min_, Builtin.min2, h4, k4]
theorem max4_is (a b c d : Int) : ∃ m : Int, (m = a ∨ m = b ∨ m = c ∨ m = d) ∧ a ≤ m ∧ b ≤ m ∧ c ≤ m ∧ d ≤ m ∧ ∀ (P : Program) (W : World) ats ty, (Builtin.max_ ats ty #[.int .i64 a, .int .i64 b, .int .i64 c, .int .i64 d]).run P W = .ok (.int .i64 m) W := by
  have h : ∀ x y : Int, ∃ m : Int, (m = x ∨ m = y) ∧ x ≤ m ∧ y ≤ m ∧ (if x < y then y else x) = m := fun x y => by
    by_cases h : x < y
    · exact ⟨y, .inr rfl, by omega, by omega, by rw [if_pos h]⟩
    · exact ⟨x, .inl rfl, by omega, by omega, by rw [if_neg h]⟩
  obtain ⟨m1, h1, h2, h3, h4⟩ := h a b
  obtain ⟨m2, k1, k2, k3, k4⟩ := h m1 c
  obtain ⟨m3, l1, l2, l3, l4⟩ := h m2 d
  refine ⟨m3, by omega, by omega, by omega, by omega, by omega, fun P W ats ty => ?_⟩
  simp [Builtin.max_, Builtin.max2, h4, k4, l4]
set_option maxRecDepth 4000 in
set_option maxHeartbeats 4000000 in
theorem emay_any (po pl pg pp : Int) (w : World) :
    Calls Try.prog 41 #[.agg #[.int .i64 po, .int .i64 pl, .int .i64 pg, .int .i64 pp]] w fun e w' => (Put9 (⟨po, pl, pg, pp⟩ : Pc) ∧ e = .returned (.bool true) ∨ ¬ Put9 (⟨po, pl, pg, pp⟩ : Pc) ∧ e = .returned (.bool false)) ∧ Below w.heap.size w w' := by
  obtain ⟨m, m0, m1, m2, m3, hmin⟩ := min3_is po pg pp
  obtain ⟨M, n0, n1, n2, n3, n4, hmax⟩ := max4_is po pl pg pp
  have HP : Hid (Put9 (⟨po, pl, pg, pp⟩ : Pc) ↔ 0 ≤ m ∧ 1 ≤ pl ∧ M ≤ 1073741824) := by
    show _ ↔ _
    unfold Put9
    simp only
    omega
  have hmin := hmin Try.prog
  have hmax := hmax Try.prog
  clear m0 m1 m2 m3 n0 n1 n2 n3 n4
  by_cases t1 : 0 ≤ m
  · by_cases t2 : 1 ≤ pl
    · by_cases t3 : M ≤ 1073741824
      · go_enter Try.func41, Try.ntmps41
        go_wp2
        go_ret
        exact ⟨.inl ⟨HP.out.2 ⟨t1, t2, t3⟩, by first | rfl | (simp [*]; done)⟩, bel_newG _ _⟩
      · go_enter Try.func41, Try.ntmps41
        go_wp2
        go_ret
        exact ⟨.inr ⟨fun h => by have := HP.out.1 h; omega, by first | rfl | (simp [*]; done)⟩, bel_newG _ _⟩
    · go_enter Try.func41, Try.ntmps41
      go_wp2
      go_ret
      exact ⟨.inr ⟨fun h => by have := HP.out.1 h; omega, by first | rfl | (simp [*]; done)⟩, bel_newG _ _⟩
  · go_enter Try.func41, Try.ntmps41
    go_wp2
    go_ret
    exact ⟨.inr ⟨fun h => by have := HP.out.1 h; omega, by first | rfl | (simp [*]; done)⟩, bel_newG _ _⟩
end Go.Proofs.Ythdmclhccbjgoaa
