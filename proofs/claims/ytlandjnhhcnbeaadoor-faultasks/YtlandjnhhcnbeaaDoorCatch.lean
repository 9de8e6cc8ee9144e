/- The deferred functions of package fault, where nothing panicked. -/
import Derived.Test.YtlandjnhhcnbeaaDoorFirst
import Derived.Defers
import Derived.Recover
namespace Go.Proofs.YtlandjnhhcnbeaaDoor
open Go.RowKit
set_option linter.unusedVariables false

set_option maxHeartbeats 1000000 in
theorem catch_num_yes (po pf : Addr) (w : World) (ho : w.cell? po = some (.bool true)) :
    CallsD Tryd.prog 40 #[.pointer (some po), .pointer (some pf)] .returning w fun e u' w' => e = .returned (.tuple #[]) ∧ u' = .returning ∧ w' = w := by
  refine callsD_of_wpS Tryd.func40 rfl fun c₀ cs hu => ?_
  apply wpS_seq
  apply wpS_region
  simp [wpOpsS, go_sem, recoverD, hu, Tryd.ntmps40, Exit.thenS, ho]
  refine wpS_cond (t := false) (by simp [Act.eval, Array.replicate]) ?_
  simp only [Bool.false_eq_true, if_false]
  refine wpS_of_wp (wp_skip ?_)
  cases c₀
  simp_all [bodyPostS, results, Tryd.results40]
set_option maxHeartbeats 1000000 in
theorem catch_num_no (p q : Nat) (x : Value) (w : World) (ho : w.cell? ⟨p, 0, none⟩ = some (.bool false)) (hx : w.cell? ⟨q, 0, none⟩ = some x) (fo : w.frozen? ⟨p, 0, none⟩ = false) (ff : w.frozen? ⟨q, 0, none⟩ = false) (hn : ¬ p = q) (hm : ¬ q = p) :
    CallsD Tryd.prog 40 #[.pointer (some ⟨p, 0, none⟩), .pointer (some ⟨q, 0, none⟩)] .returning w fun e u' w' => e = .returned (.tuple #[]) ∧ u' = .returning ∧ w' = (w.setCell ⟨q, 0, none⟩ (.int .i64 0)).setCell ⟨p, 0, none⟩ (.bool false) := by
  refine callsD_of_wpS Tryd.func40 rfl fun c₀ cs hu => ?_
  apply wpS_seq
  apply wpS_region
  simp [wpOpsS, go_sem, recoverD, hu, Tryd.ntmps40, Exit.thenS, ho]
  refine wpS_cond (t := true) (by simp [Act.eval, Array.replicate]) ?_
  simp only [if_true]
  apply wpS_seq
  apply wpS_region
  simp [wpOpsS, go_sem, Exit.thenS]
  apply wpS_region
  simp [wpOpsS, go_sem, hx, ff, fo, ho]
  cases c₀
  simp_all [bodyPostS, results, Tryd.results40]
set_option maxHeartbeats 1000000 in
theorem catch_fault_yes (po pf : Addr) (w : World) (ho : w.cell? po = some (.bool true)) :
    CallsD Tryd.prog 46 #[.pointer (some po), .pointer (some pf)] .returning w fun e u' w' => e = .returned (.tuple #[]) ∧ u' = .returning ∧ w' = w := by
  refine callsD_of_wpS Tryd.func46 rfl fun c₀ cs hu => ?_
  apply wpS_seq
  apply wpS_region
  simp [wpOpsS, go_sem, recoverD, hu, Tryd.ntmps46, Exit.thenS, ho]
  refine wpS_cond (t := false) (by simp [Act.eval, Array.replicate]) ?_
  simp only [Bool.false_eq_true, if_false]
  refine wpS_of_wp (wp_skip ?_)
  cases c₀
  simp_all [bodyPostS, results, Tryd.results46]
set_option maxHeartbeats 1000000 in
theorem catch_fault_no (p q : Nat) (x : Value) (w : World) (ho : w.cell? ⟨p, 0, none⟩ = some (.bool false)) (hx : w.cell? ⟨q, 0, none⟩ = some x) (fo : w.frozen? ⟨p, 0, none⟩ = false) (ff : w.frozen? ⟨q, 0, none⟩ = false) (hn : ¬ p = q) (hm : ¬ q = p) :
    CallsD Tryd.prog 46 #[.pointer (some ⟨p, 0, none⟩), .pointer (some ⟨q, 0, none⟩)] .returning w fun e u' w' => e = .returned (.tuple #[]) ∧ u' = .returning ∧ w' = (w.setCell ⟨q, 0, none⟩ (.pointer none)).setCell ⟨p, 0, none⟩ (.bool false) := by
  refine callsD_of_wpS Tryd.func46 rfl fun c₀ cs hu => ?_
  apply wpS_seq
  apply wpS_region
  simp [wpOpsS, go_sem, recoverD, hu, Tryd.ntmps46, Exit.thenS, ho]
  refine wpS_cond (t := true) (by simp [Act.eval, Array.replicate]) ?_
  simp only [if_true]
  apply wpS_seq
  apply wpS_region
  simp [wpOpsS, go_sem, Exit.thenS]
  apply wpS_region
  simp [wpOpsS, go_sem, hx, ff, fo, ho]
  cases c₀
  simp_all [bodyPostS, results, Tryd.results46]
end Go.Proofs.YtlandjnhhcnbeaaDoor
