/- package extent: join. -/
import Derived.Test.YthdmclhccbjgoaaEMapT
import Derived.Test.YthdmclhccbjgoaaMPut
namespace Go.Proofs.Ythdmclhccbjgoaa
open Go.RowKit Kit
set_option linter.unusedVariables false

set_option maxRecDepth 4000 in
set_option maxHeartbeats 8000000 in
theorem ejoin_neg (p B : Nat) (i : Int) (v : Value) (ps : List Pc) (w : World) (hm : EMap w p B v ps) (hi : i < 0) :
    Calls Try.prog 43 #[.pointer (some ⟨p, 0, none⟩), .int .i64 i] w fun e w' => e = .returned (.tuple #[]) ∧ Below w.heap.size w w' := by
  clear hm
  go_enter Try.func43, Try.ntmps43
  go_wp2_with fail
  go_quiet (fail)
  go_wp2_with fail
  refine bodyPost_ret (v := .tuple #[]) (by simp [results, Try.results43, go_sem]) rfl ⟨rfl, ?_⟩
  exact bel_drewN9 _ _
set_option maxRecDepth 4000 in
set_option maxHeartbeats 8000000 in
theorem ejoin_end (p B : Nat) (i : Int) (v : Value) (ps : List Pc) (w : World) (hm : EMap w p B v ps) (hl : ps.length ≤ 1000) (hi : 0 ≤ i) (hi2 : (ps.length : Int) ≤ i + 1) (hi3 : i ≤ 2000) :
    Calls Try.prog 43 #[.pointer (some ⟨p, 0, none⟩), .int .i64 i] w fun e w' => e = .returned (.tuple #[]) ∧ Below w.heap.size w w' := by
  obtain ⟨ao, cap, rfl⟩ := hm.row.sees.form
  obtain ⟨n, hn⟩ : ∃ n, n = ps.length := ⟨_, rfl⟩
  rw [← hn] at hm hi2
  have q0 : w.cell? ⟨p, 0, none⟩ = some (.slice ao n cap) := blk_cell hm.cell rfl
  have hw : IntKind.i64.wrap (i + 1) = i + 1 := by rw [IntKind.wrap_i64]; omega
  have hd1 : decide (i < 0) = false := by rw [decide_eq_false_iff_not]; omega
  have hd2 : decide ((n : Int) ≤ i + 1) = true := by rw [decide_eq_true_eq]; exact hi2
  clear hm hn hl
  go_enter Try.func43, Try.ntmps43
  go_wp2_with fail
  go_quiet (fail)
  go_wp2_with fail
  refine bodyPost_ret (v := .tuple #[]) (by simp [results, Try.results43, go_sem]) rfl ⟨rfl, ?_⟩
  exact bel_drewN9 _ _
end Go.Proofs.Ythdmclhccbjgoaa
