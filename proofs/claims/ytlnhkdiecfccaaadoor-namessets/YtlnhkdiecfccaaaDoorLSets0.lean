/- NamesSets: the sum over the list; what its loops keep. -/
import Derived.Test.YtlnhkdiecfccaaaDoorLSorts
import Derived.Test.YtlnhkdiecfccaaaDoorMSets
namespace Go.Proofs.YtlnhkdiecfccaaaDoor
open Go.RowKit Kit
set_option linter.unusedVariables false

set_option maxHeartbeats 1000000 in
/-- dolmenalike.Sum from a number that is too great. -/
theorem sum_big (n b cap : Nat) (w : World) (h0 : (1099511627776 : Int) < (n : Int)) (h1 : (n : Int) ≤ 9223372036854775807) :
    Calls Tryd.prog 19 #[.int .i64 (n : Int), .slice (some ⟨b, 0, none⟩) 2 cap] w fun e w' => e = .returned (.int .i64 1099511627776) ∧ w' = w := by
  go_enter Tryd.func19, Tryd.ntmps19
  go_wp2
  refine wp_loop_rounds 1 ?_
  rw [rounds_succ]
  go_wp2
  go_ret
  exact ⟨rfl, rfl⟩
/-- Sum of any number, a text's size and one. -/
theorem sum_two' (m x : Nat) (w : World) (hm : m ≤ maxLen) (hx : x ≤ maxLen) :
    Calls Tryd.prog 19 #[.int .i64 (m : Int), .slice (some ⟨w.heap.size, 0, none⟩) 2 2] (w.alloc (.cells #[.int .i64 (x : Int), .int .i64 1] 3)) fun e w' => (∃ s : Nat, e = .returned (.int .i64 (s : Int)) ∧ s ≤ maxLen ∧ (s ≤ 1000 → s = m + x + 1)) ∧ Below w.heap.size w w' := by
  by_cases hb : m ≤ 1099511627776
  · refine (sum_list [x, 1] m w.heap.size 2 _ (show m ≤ _ by omega) (show ∀ i, _ from fun i hi => ?_) (by simp) (show ∀ i, _ from fun i hi => ?_)).mono ?_
    · match i, hi with
      | 0, _ => simp only [List.getD_cons_zero]; unfold maxLen at hx; omega
      | 1, _ => simp
    · match i, hi with
      | 0, _ => simp
      | 1, _ => simp
    · rintro e w' ⟨rfl, rfl⟩
      refine ⟨⟨_, rfl, Nat.le_trans (satSum_le _ _ hb) (by unfold maxLen; omega), fun hs => ?_⟩, (Below.refl _ _).alloc (Nat.le_refl _) _⟩
      rw [satSum_small _ _ (by omega)]
      simp
      omega
  · refine (sum_big m w.heap.size 2 _ (by omega) (by unfold maxLen at hm; omega)).mono ?_
    rintro e w' ⟨rfl, rfl⟩
    exact ⟨⟨1099511627776, rfl, by unfold maxLen; omega, fun h => by omega⟩, (Below.refl _ _).alloc (Nat.le_refl _) _⟩
theorem rising_at {l : List ByteArray} (h : Rising l) {m : Nat} (hm : m + 1 < l.length) : Op.bytesLess (l.getD m ⟨#[]⟩).toList (l.getD (m + 1) ⟨#[]⟩).toList = true := by
  have := List.pairwise_iff_getElem.1 h m (m + 1) (by omega) hm (by omega)
  have h1 : m < l.length := by omega
  simpa [List.getD, h1, hm, less] using this
theorem keepS {w a b : World} {p1 p2 : Addr} {x y : Value} (h : a.cell? p1 = some x ∧ a.cell? p2 = some y ∧ Hid (p1.block < a.heap.size ∧ p2.block < a.heap.size ∧ Below w.heap.size w a)) (k : Below a.heap.size a b) : b.cell? p1 = some x ∧ b.cell? p2 = some y ∧ Hid (p1.block < b.heap.size ∧ p2.block < b.heap.size ∧ Below w.heap.size w b) := by
  obtain ⟨h1, h2, h3⟩ := h
  have h3 := h3.out
  have := k.size
  exact ⟨(k.cell h3.1).trans h1, (k.cell h3.2.1).trans h2, ⟨by omega, by omega, bel2v h3.2.2 k⟩⟩
end Go.Proofs.YtlnhkdiecfccaaaDoor
