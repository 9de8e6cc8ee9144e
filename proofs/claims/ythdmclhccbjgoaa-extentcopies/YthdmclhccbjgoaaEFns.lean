/- package extent: its small functions. -/
import Derived.Test.YthdmclhccbjgoaaERep
import Derived.Test.YthdmclhccbjgoaaKitOwn9
import Derived.Test.YthdmclhccbjgoaaRJoined
namespace Go.Proofs.Ythdmclhccbjgoaa
open Go.RowKit Kit
set_option linter.unusedVariables false

theorem eall_any (p : Nat) (v : Value) (w : World) (hp : w.heap[p]? = some (.cells #[v] 59)) :
    Calls Try.prog 31 #[.pointer (some ⟨p, 0, none⟩)] w fun e w' => e = .returned v ∧ w' = w := by
  have q0 : w.cell? ⟨p, 0, none⟩ = some v := blk_cell hp rfl
  clear hp
  go_enter Try.func31, Try.ntmps31
  go_wp2
  go_ret
  exact ⟨rfl, rfl⟩
theorem eall_nil (w : World) : Calls Try.prog 31 #[.pointer none] w fun e w' => e = .returned (.slice none 0 0) ∧ w' = w := by
  go_enter Try.func31, Try.ntmps31
  go_wp2
  go_ret
  exact ⟨rfl, rfl⟩
theorem epend_any (po pl pg pp : Int) (w : World) (h0 : 0 ≤ po) (h1 : po ≤ 8589934592) (h2 : 0 ≤ pl) (h3 : pl ≤ 8589934592) :
    Calls Try.prog 36 #[.agg #[.int .i64 po, .int .i64 pl, .int .i64 pg, .int .i64 pp]] w fun e w' => e = .returned (.int .i64 (po + pl)) ∧ Below w.heap.size w w' := by
  go_enter Try.func36, Try.ntmps36
  go_wp2
  go_ret
  exact ⟨rfl, bel_newG _ _⟩
theorem egoes1 (po pl pg pp qo ql qg qp : Int) (w : World) (h0 : 0 ≤ po) (h1 : po ≤ 8589934592) (h2 : 0 ≤ pl) (h3 : pl ≤ 8589934592) (h4 : 0 ≤ pp) (h5 : pp ≤ 8589934592) (t1 : ¬ po + pl = qo) :
    Calls Try.prog 56 #[.agg #[.int .i64 po, .int .i64 pl, .int .i64 pg, .int .i64 pp], .agg #[.int .i64 qo, .int .i64 ql, .int .i64 qg, .int .i64 qp]] w fun e w' => e = .returned (.bool false) ∧ Below w.heap.size w w' := by
  have d1 : decide (po + pl = qo) = false := by simpa using t1
  have d2 : (po + pl == qo) = false := by simpa using t1
  obtain ⟨W, hW⟩ : ∃ z, z = (w.alloc (.cells #[.int .i64 po, .int .i64 pl, .int .i64 pg, .int .i64 pp] 35)).alloc (.cells #[.int .i64 qo, .int .i64 ql, .int .i64 qg, .int .i64 qp] 35) := ⟨_, rfl⟩
  have HW : Hid (Below w.heap.size w W) := by rw [hW]; exact bel_tr (bel_newG _ _) (bel_newG _ _)
  have hs1 : (w.alloc (.cells #[.int .i64 po, .int .i64 pl, .int .i64 pg, .int .i64 pp] 35)).heap.size = w.heap.size + 1 := by simp
  have hb1 : W.heap[w.heap.size]? = some (.cells #[.int .i64 po, .int .i64 pl, .int .i64 pg, .int .i64 pp] 35) := by
    rw [hW]
    exact blk_below (bel_newG _ _) (MapKept.heap_alloc w _).1
  have hb2 : W.heap[w.heap.size + 1]? = some (.cells #[.int .i64 qo, .int .i64 ql, .int .i64 qg, .int .i64 qp] 35) := by
    rw [hW, ← hs1]
    exact (MapKept.heap_alloc _ _).1
  have hne := ownW_nonempty W
  have dl1 : w.heap.size < W.heap.size := blk_lt hb1
  have dl2 : w.heap.size + 1 < W.heap.size := blk_lt hb2
  have a0 : ∀ n : OwnW W, n.1.cell? ⟨w.heap.size, 0, none⟩ = some (.int .i64 po) := fun n => (n.2.cell (by exact dl1)).trans (blk_cell hb1 rfl)
  have a1 : ∀ n : OwnW W, n.1.cell? ⟨w.heap.size, 1, none⟩ = some (.int .i64 pl) := fun n => (n.2.cell (by exact dl1)).trans (blk_cell hb1 rfl)
  have a2 : ∀ n : OwnW W, n.1.cell? ⟨w.heap.size, 2, none⟩ = some (.int .i64 pg) := fun n => (n.2.cell (by exact dl1)).trans (blk_cell hb1 rfl)
  have a3 : ∀ n : OwnW W, n.1.cell? ⟨w.heap.size, 3, none⟩ = some (.int .i64 pp) := fun n => (n.2.cell (by exact dl1)).trans (blk_cell hb1 rfl)
  have b0 : ∀ n : OwnW W, n.1.cell? ⟨w.heap.size + 1, 0, none⟩ = some (.int .i64 qo) := fun n => (n.2.cell (by exact dl2)).trans (blk_cell hb2 rfl)
  have b2 : ∀ n : OwnW W, n.1.cell? ⟨w.heap.size + 1, 2, none⟩ = some (.int .i64 qg) := fun n => (n.2.cell (by exact dl2)).trans (blk_cell hb2 rfl)
  have b3 : ∀ n : OwnW W, n.1.cell? ⟨w.heap.size + 1, 3, none⟩ = some (.int .i64 qp) := fun n => (n.2.cell (by exact dl2)).trans (blk_cell hb2 rfl)
  have HE : Hid (∀ n : OwnW W, Calls Try.prog 36 #[.agg #[.int .i64 po, .int .i64 pl, .int .i64 pg, .int .i64 pp]] n.1 fun e w'' => e = .returned (.int .i64 (po + pl)) ∧ ∃ m : OwnW W, w'' = m.1) := fun n => Calls.own_of (epend_any po pl pg pp n.1 h0 h1 h2 h3)
  clear hb1 hb2 hs1
  go_enter Try.func56, Try.ntmps56
  go_wp2_with fail
  rw [← hW]
  clear hW
  refine wp_region_own (by kernel_rfl) (by kernel_rfl) ?_
  repeat (go_big_quiet_step (exact HE.out _))
  refine wpQuiet_nil ?_
  rintro _ ⟨m, rfl⟩
  have HM : Hid (Below W.heap.size W m.1) := m.2
  go_wp2
  go_ret
  exact ⟨by first | rfl | (simp [*]; done) | simp, bel_tr HW.out HM.out⟩
theorem egoes2 (po pl pg pp qo ql qg qp : Int) (w : World) (h0 : 0 ≤ po) (h1 : po ≤ 8589934592) (h2 : 0 ≤ pl) (h3 : pl ≤ 8589934592) (h4 : 0 ≤ pp) (h5 : pp ≤ 8589934592) (t1 : po + pl = qo) (t2 : ¬ pg = qg) :
    Calls Try.prog 56 #[.agg #[.int .i64 po, .int .i64 pl, .int .i64 pg, .int .i64 pp], .agg #[.int .i64 qo, .int .i64 ql, .int .i64 qg, .int .i64 qp]] w fun e w' => e = .returned (.bool false) ∧ Below w.heap.size w w' := by
  subst t1
  have d1 : decide (pg = qg) = false := by simpa using t2
  have d2 : (pg == qg) = false := by simpa using t2
  obtain ⟨W, hW⟩ : ∃ z, z = (w.alloc (.cells #[.int .i64 po, .int .i64 pl, .int .i64 pg, .int .i64 pp] 35)).alloc (.cells #[.int .i64 (po + pl), .int .i64 ql, .int .i64 qg, .int .i64 qp] 35) := ⟨_, rfl⟩
  have HW : Hid (Below w.heap.size w W) := by rw [hW]; exact bel_tr (bel_newG _ _) (bel_newG _ _)
  have hs1 : (w.alloc (.cells #[.int .i64 po, .int .i64 pl, .int .i64 pg, .int .i64 pp] 35)).heap.size = w.heap.size + 1 := by simp
  have hb1 : W.heap[w.heap.size]? = some (.cells #[.int .i64 po, .int .i64 pl, .int .i64 pg, .int .i64 pp] 35) := by
    rw [hW]
    exact blk_below (bel_newG _ _) (MapKept.heap_alloc w _).1
  have hb2 : W.heap[w.heap.size + 1]? = some (.cells #[.int .i64 (po + pl), .int .i64 ql, .int .i64 qg, .int .i64 qp] 35) := by
    rw [hW, ← hs1]
    exact (MapKept.heap_alloc _ _).1
  have hne := ownW_nonempty W
  have dl1 : w.heap.size < W.heap.size := blk_lt hb1
  have dl2 : w.heap.size + 1 < W.heap.size := blk_lt hb2
  have a0 : ∀ n : OwnW W, n.1.cell? ⟨w.heap.size, 0, none⟩ = some (.int .i64 po) := fun n => (n.2.cell (by exact dl1)).trans (blk_cell hb1 rfl)
  have a1 : ∀ n : OwnW W, n.1.cell? ⟨w.heap.size, 1, none⟩ = some (.int .i64 pl) := fun n => (n.2.cell (by exact dl1)).trans (blk_cell hb1 rfl)
  have a2 : ∀ n : OwnW W, n.1.cell? ⟨w.heap.size, 2, none⟩ = some (.int .i64 pg) := fun n => (n.2.cell (by exact dl1)).trans (blk_cell hb1 rfl)
  have a3 : ∀ n : OwnW W, n.1.cell? ⟨w.heap.size, 3, none⟩ = some (.int .i64 pp) := fun n => (n.2.cell (by exact dl1)).trans (blk_cell hb1 rfl)
  have b0 : ∀ n : OwnW W, n.1.cell? ⟨w.heap.size + 1, 0, none⟩ = some (.int .i64 (po + pl)) := fun n => (n.2.cell (by exact dl2)).trans (blk_cell hb2 rfl)
  have b2 : ∀ n : OwnW W, n.1.cell? ⟨w.heap.size + 1, 2, none⟩ = some (.int .i64 qg) := fun n => (n.2.cell (by exact dl2)).trans (blk_cell hb2 rfl)
  have b3 : ∀ n : OwnW W, n.1.cell? ⟨w.heap.size + 1, 3, none⟩ = some (.int .i64 qp) := fun n => (n.2.cell (by exact dl2)).trans (blk_cell hb2 rfl)
  have HE : Hid (∀ n : OwnW W, Calls Try.prog 36 #[.agg #[.int .i64 po, .int .i64 pl, .int .i64 pg, .int .i64 pp]] n.1 fun e w'' => e = .returned (.int .i64 (po + pl)) ∧ ∃ m : OwnW W, w'' = m.1) := fun n => Calls.own_of (epend_any po pl pg pp n.1 h0 h1 h2 h3)
  clear hb1 hb2 hs1
  go_enter Try.func56, Try.ntmps56
  go_wp2_with fail
  rw [← hW]
  clear hW
  refine wp_region_own (by kernel_rfl) (by kernel_rfl) ?_
  repeat (go_big_quiet_step (exact HE.out _))
  refine wpQuiet_nil ?_
  rintro _ ⟨m, rfl⟩
  have HM : Hid (Below W.heap.size W m.1) := m.2
  go_wp2
  go_ret
  exact ⟨by first | rfl | (simp [*]; done) | simp, bel_tr HW.out HM.out⟩
theorem egoes3 (po pl pg pp qo ql qg qp : Int) (w : World) (h0 : 0 ≤ po) (h1 : po ≤ 8589934592) (h2 : 0 ≤ pl) (h3 : pl ≤ 8589934592) (h4 : 0 ≤ pp) (h5 : pp ≤ 8589934592) (t1 : po + pl = qo) (t2 : pg = qg) (t3 : ¬ pp + pl = qp) :
    Calls Try.prog 56 #[.agg #[.int .i64 po, .int .i64 pl, .int .i64 pg, .int .i64 pp], .agg #[.int .i64 qo, .int .i64 ql, .int .i64 qg, .int .i64 qp]] w fun e w' => e = .returned (.bool false) ∧ Below w.heap.size w w' := by
  subst t1 t2
  have d1 : decide (pp + pl = qp) = false := by simpa using t3
  obtain ⟨W, hW⟩ : ∃ z, z = (w.alloc (.cells #[.int .i64 po, .int .i64 pl, .int .i64 pg, .int .i64 pp] 35)).alloc (.cells #[.int .i64 (po + pl), .int .i64 ql, .int .i64 pg, .int .i64 qp] 35) := ⟨_, rfl⟩
  have HW : Hid (Below w.heap.size w W) := by rw [hW]; exact bel_tr (bel_newG _ _) (bel_newG _ _)
  have hs1 : (w.alloc (.cells #[.int .i64 po, .int .i64 pl, .int .i64 pg, .int .i64 pp] 35)).heap.size = w.heap.size + 1 := by simp
  have hb1 : W.heap[w.heap.size]? = some (.cells #[.int .i64 po, .int .i64 pl, .int .i64 pg, .int .i64 pp] 35) := by
    rw [hW]
    exact blk_below (bel_newG _ _) (MapKept.heap_alloc w _).1
  have hb2 : W.heap[w.heap.size + 1]? = some (.cells #[.int .i64 (po + pl), .int .i64 ql, .int .i64 pg, .int .i64 qp] 35) := by
    rw [hW, ← hs1]
    exact (MapKept.heap_alloc _ _).1
  have hne := ownW_nonempty W
  have dl1 : w.heap.size < W.heap.size := blk_lt hb1
  have dl2 : w.heap.size + 1 < W.heap.size := blk_lt hb2
  have a0 : ∀ n : OwnW W, n.1.cell? ⟨w.heap.size, 0, none⟩ = some (.int .i64 po) := fun n => (n.2.cell (by exact dl1)).trans (blk_cell hb1 rfl)
  have a1 : ∀ n : OwnW W, n.1.cell? ⟨w.heap.size, 1, none⟩ = some (.int .i64 pl) := fun n => (n.2.cell (by exact dl1)).trans (blk_cell hb1 rfl)
  have a2 : ∀ n : OwnW W, n.1.cell? ⟨w.heap.size, 2, none⟩ = some (.int .i64 pg) := fun n => (n.2.cell (by exact dl1)).trans (blk_cell hb1 rfl)
  have a3 : ∀ n : OwnW W, n.1.cell? ⟨w.heap.size, 3, none⟩ = some (.int .i64 pp) := fun n => (n.2.cell (by exact dl1)).trans (blk_cell hb1 rfl)
  have b0 : ∀ n : OwnW W, n.1.cell? ⟨w.heap.size + 1, 0, none⟩ = some (.int .i64 (po + pl)) := fun n => (n.2.cell (by exact dl2)).trans (blk_cell hb2 rfl)
  have b2 : ∀ n : OwnW W, n.1.cell? ⟨w.heap.size + 1, 2, none⟩ = some (.int .i64 pg) := fun n => (n.2.cell (by exact dl2)).trans (blk_cell hb2 rfl)
  have b3 : ∀ n : OwnW W, n.1.cell? ⟨w.heap.size + 1, 3, none⟩ = some (.int .i64 qp) := fun n => (n.2.cell (by exact dl2)).trans (blk_cell hb2 rfl)
  have HE : Hid (∀ n : OwnW W, Calls Try.prog 36 #[.agg #[.int .i64 po, .int .i64 pl, .int .i64 pg, .int .i64 pp]] n.1 fun e w'' => e = .returned (.int .i64 (po + pl)) ∧ ∃ m : OwnW W, w'' = m.1) := fun n => Calls.own_of (epend_any po pl pg pp n.1 h0 h1 h2 h3)
  clear hb1 hb2 hs1
  go_enter Try.func56, Try.ntmps56
  go_wp2_with fail
  rw [← hW]
  clear hW
  refine wp_region_own (by kernel_rfl) (by kernel_rfl) ?_
  repeat (go_big_quiet_step (exact HE.out _))
  refine wpQuiet_nil ?_
  rintro _ ⟨m, rfl⟩
  have HM : Hid (Below W.heap.size W m.1) := m.2
  go_wp2
  go_ret
  exact ⟨by first | rfl | (simp [*]; done) | simp, bel_tr HW.out HM.out⟩
theorem egoes4 (po pl pg pp qo ql qg qp : Int) (w : World) (h0 : 0 ≤ po) (h1 : po ≤ 8589934592) (h2 : 0 ≤ pl) (h3 : pl ≤ 8589934592) (h4 : 0 ≤ pp) (h5 : pp ≤ 8589934592) (t1 : po + pl = qo) (t2 : pg = qg) (t3 : pp + pl = qp) :
    Calls Try.prog 56 #[.agg #[.int .i64 po, .int .i64 pl, .int .i64 pg, .int .i64 pp], .agg #[.int .i64 qo, .int .i64 ql, .int .i64 qg, .int .i64 qp]] w fun e w' => e = .returned (.bool true) ∧ Below w.heap.size w w' := by
  subst t1 t2 t3
  obtain ⟨W, hW⟩ : ∃ z, z = (w.alloc (.cells #[.int .i64 po, .int .i64 pl, .int .i64 pg, .int .i64 pp] 35)).alloc (.cells #[.int .i64 (po + pl), .int .i64 ql, .int .i64 pg, .int .i64 (pp + pl)] 35) := ⟨_, rfl⟩
  have HW : Hid (Below w.heap.size w W) := by rw [hW]; exact bel_tr (bel_newG _ _) (bel_newG _ _)
  have hs1 : (w.alloc (.cells #[.int .i64 po, .int .i64 pl, .int .i64 pg, .int .i64 pp] 35)).heap.size = w.heap.size + 1 := by simp
  have hb1 : W.heap[w.heap.size]? = some (.cells #[.int .i64 po, .int .i64 pl, .int .i64 pg, .int .i64 pp] 35) := by
    rw [hW]
    exact blk_below (bel_newG _ _) (MapKept.heap_alloc w _).1
  have hb2 : W.heap[w.heap.size + 1]? = some (.cells #[.int .i64 (po + pl), .int .i64 ql, .int .i64 pg, .int .i64 (pp + pl)] 35) := by
    rw [hW, ← hs1]
    exact (MapKept.heap_alloc _ _).1
  have hne := ownW_nonempty W
  have dl1 : w.heap.size < W.heap.size := blk_lt hb1
  have dl2 : w.heap.size + 1 < W.heap.size := blk_lt hb2
  have a0 : ∀ n : OwnW W, n.1.cell? ⟨w.heap.size, 0, none⟩ = some (.int .i64 po) := fun n => (n.2.cell (by exact dl1)).trans (blk_cell hb1 rfl)
  have a1 : ∀ n : OwnW W, n.1.cell? ⟨w.heap.size, 1, none⟩ = some (.int .i64 pl) := fun n => (n.2.cell (by exact dl1)).trans (blk_cell hb1 rfl)
  have a2 : ∀ n : OwnW W, n.1.cell? ⟨w.heap.size, 2, none⟩ = some (.int .i64 pg) := fun n => (n.2.cell (by exact dl1)).trans (blk_cell hb1 rfl)
  have a3 : ∀ n : OwnW W, n.1.cell? ⟨w.heap.size, 3, none⟩ = some (.int .i64 pp) := fun n => (n.2.cell (by exact dl1)).trans (blk_cell hb1 rfl)
  have b0 : ∀ n : OwnW W, n.1.cell? ⟨w.heap.size + 1, 0, none⟩ = some (.int .i64 (po + pl)) := fun n => (n.2.cell (by exact dl2)).trans (blk_cell hb2 rfl)
  have b2 : ∀ n : OwnW W, n.1.cell? ⟨w.heap.size + 1, 2, none⟩ = some (.int .i64 pg) := fun n => (n.2.cell (by exact dl2)).trans (blk_cell hb2 rfl)
  have b3 : ∀ n : OwnW W, n.1.cell? ⟨w.heap.size + 1, 3, none⟩ = some (.int .i64 (pp + pl)) := fun n => (n.2.cell (by exact dl2)).trans (blk_cell hb2 rfl)
  have HE : Hid (∀ n : OwnW W, Calls Try.prog 36 #[.agg #[.int .i64 po, .int .i64 pl, .int .i64 pg, .int .i64 pp]] n.1 fun e w'' => e = .returned (.int .i64 (po + pl)) ∧ ∃ m : OwnW W, w'' = m.1) := fun n => Calls.own_of (epend_any po pl pg pp n.1 h0 h1 h2 h3)
  clear hb1 hb2 hs1
  go_enter Try.func56, Try.ntmps56
  go_wp2_with fail
  rw [← hW]
  clear hW
  refine wp_region_own (by kernel_rfl) (by kernel_rfl) ?_
  repeat (go_big_quiet_step (exact HE.out _))
  refine wpQuiet_nil ?_
  rintro _ ⟨m, rfl⟩
  have HM : Hid (Below W.heap.size W m.1) := m.2
  go_wp2
  go_ret
  exact ⟨by first | rfl | (simp [*]; done) | simp, bel_tr HW.out HM.out⟩
theorem egoes_any (po pl pg pp qo ql qg qp : Int) (w : World) (h0 : 0 ≤ po) (h1 : po ≤ 8589934592) (h2 : 0 ≤ pl) (h3 : pl ≤ 8589934592) (h4 : 0 ≤ pp) (h5 : pp ≤ 8589934592) :
    Calls Try.prog 56 #[.agg #[.int .i64 po, .int .i64 pl, .int .i64 pg, .int .i64 pp], .agg #[.int .i64 qo, .int .i64 ql, .int .i64 qg, .int .i64 qp]] w fun e w' => e = .returned (.bool (touchB ⟨po, pl, pg, pp⟩ ⟨qo, ql, qg, qp⟩)) ∧ Below w.heap.size w w' := by
  have HT : touchB ⟨po, pl, pg, pp⟩ ⟨qo, ql, qg, qp⟩ = decide (po + pl = qo ∧ pg = qg ∧ pp + pl = qp) := rfl
  rw [HT]
  by_cases t1 : po + pl = qo
  · by_cases t2 : pg = qg
    · by_cases t3 : pp + pl = qp
      · rw [decide_eq_true (show po + pl = qo ∧ pg = qg ∧ pp + pl = qp from ⟨t1, t2, t3⟩)]
        exact egoes4 po pl pg pp qo ql qg qp w h0 h1 h2 h3 h4 h5 t1 t2 t3
      · rw [decide_eq_false (fun h => t3 h.2.2)]
        exact egoes3 po pl pg pp qo ql qg qp w h0 h1 h2 h3 h4 h5 t1 t2 t3
    · rw [decide_eq_false (fun h => t2 h.2.1)]
      exact egoes2 po pl pg pp qo ql qg qp w h0 h1 h2 h3 h4 h5 t1 t2
  · rw [decide_eq_false (fun h => t1 h.1)]
    exact egoes1 po pl pg pp qo ql qg qp w h0 h1 h2 h3 h4 h5 t1
end Go.Proofs.Ythdmclhccbjgoaa
