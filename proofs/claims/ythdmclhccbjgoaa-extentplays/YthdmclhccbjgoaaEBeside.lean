/- package extent: what is left of a piece when another one takes places of it. -/
import Derived.Test.YthdmclhccbjgoaaEPart
import Derived.Deep.RegionHeld3
import Derived.Deep.RegionLaw
namespace Go.Proofs.Ythdmclhccbjgoaa
open Go.RowKit Kit
set_option linter.unusedVariables false

/-- Two pieces in their boxes. -/
def Two9 (w0 W : World) (a : Nat) (po pl pg pp qo ql qg qp : Int) : Prop :=
  W.cell? ⟨a, 0, none⟩ = some (.int .i64 po) ∧ W.cell? ⟨a, 1, none⟩ = some (.int .i64 pl) ∧ W.cell? ⟨a, 2, none⟩ = some (.int .i64 pg) ∧ W.cell? ⟨a, 3, none⟩ = some (.int .i64 pp) ∧
  W.cell? ⟨a + 1, 0, none⟩ = some (.int .i64 qo) ∧ W.cell? ⟨a + 1, 1, none⟩ = some (.int .i64 ql) ∧ W.cell? ⟨a + 1, 2, none⟩ = some (.int .i64 qg) ∧ W.cell? ⟨a + 1, 3, none⟩ = some (.int .i64 qp) ∧ Hid (Below w0.heap.size w0 W ∧ a + 1 < W.heap.size)
theorem two_keep {w0 W W' : World} {a : Nat} {po pl pg pp qo ql qg qp : Int} (h : Two9 w0 W a po pl pg pp qo ql qg qp) (hb : Below W.heap.size W W') : Two9 w0 W' a po pl pg pp qo ql qg qp := by
  obtain ⟨a0, a1, a2, a3, b0, b1, b2, b3, h1, h2⟩ := h
  have k : ∀ {x : Addr} {v : Value}, x.block < W.heap.size → W.cell? x = some v → W'.cell? x = some v := fun hx hv => (hb.cell hx).trans hv
  exact ⟨k (by show a < _; omega) a0, k (by show a < _; omega) a1, k (by show a < _; omega) a2, k (by show a < _; omega) a3, k h2 b0, k h2 b1, k h2 b2, k h2 b3, bel_tr h1 hb, Nat.lt_of_lt_of_le h2 hb.size⟩
theorem two_bel {w0 W : World} {a : Nat} {po pl pg pp qo ql qg qp : Int} (h : Two9 w0 W a po pl pg pp qo ql qg qp) : Below w0.heap.size w0 W := h.2.2.2.2.2.2.2.2.out.1
theorem two_boxes (w : World) (t : TypeId) (po pl pg pp qo ql qg qp : Int) (w0 : World) (h : w0 = (w.alloc (.cells #[.int .i64 po, .int .i64 pl, .int .i64 pg, .int .i64 pp] t)).alloc (.cells #[.int .i64 qo, .int .i64 ql, .int .i64 qg, .int .i64 qp] t)) : Two9 w0 w0 w.heap.size po pl pg pp qo ql qg qp := by
  have hs1 : (w.alloc (.cells #[.int .i64 po, .int .i64 pl, .int .i64 pg, .int .i64 pp] t)).heap.size = w.heap.size + 1 := by simp
  have hb1 : w0.heap[w.heap.size]? = some (.cells #[.int .i64 po, .int .i64 pl, .int .i64 pg, .int .i64 pp] t) := by rw [h]; exact blk_below (bel_newG _ _) (MapKept.heap_alloc w _).1
  have hb2 : w0.heap[w.heap.size + 1]? = some (.cells #[.int .i64 qo, .int .i64 ql, .int .i64 qg, .int .i64 qp] t) := by rw [h, ← hs1]; exact (MapKept.heap_alloc _ _).1
  exact ⟨blk_cell hb1 rfl, blk_cell hb1 rfl, blk_cell hb1 rfl, blk_cell hb1 rfl, blk_cell hb2 rfl, blk_cell hb2 rfl, blk_cell hb2 rfl, blk_cell hb2 rfl, Below.refl _ _, blk_lt hb2⟩
theorem nil_app9 (W : World) (o : Obj) (po pl pg pp : Int) (e : TypeId) (B : Nat) (hB : B ≤ W.heap.size) :
    RowE pcE ((W.alloc o).alloc (.cells (#[.int .i64 po, .int .i64 pl, .int .i64 pg, .int .i64 pp] ++ Builtin.zeroCells #[.int .i64 0, .int .i64 0, .int .i64 0, .int .i64 0] (grownCap W 1 0 e - 1)) e)).drew B e (.slice (some ⟨W.heap.size + 1, 0, none⟩) 1 (grownCap W 1 0 e)) [⟨po, pl, pg, pp⟩] := by
  have hs : (W.alloc o).heap.size = W.heap.size + 1 := by simp
  have hh : ((W.alloc o).alloc (.cells (#[.int .i64 po, .int .i64 pl, .int .i64 pg, .int .i64 pp] ++ Builtin.zeroCells #[.int .i64 0, .int .i64 0, .int .i64 0, .int .i64 0] (grownCap W 1 0 e - 1)) e)).drew.heap[W.heap.size + 1]? = some (.cells (#[.int .i64 po, .int .i64 pl, .int .i64 pg, .int .i64 pp] ++ Builtin.zeroCells #[.int .i64 0, .int .i64 0, .int .i64 0, .int .i64 0] (grownCap W 1 0 e - 1)) e) := by
    rw [← hs]; exact (MapKept.heap_alloc _ _).1
  have hge := grownCap_ge W 1 0 e
  refine rowE_mk hh (by omega) rfl hge (grownCap_le_maxLen W 1 0 e (by unfold maxLen; omega)) ?_ ?_
  · rw [Array.size_append, size_zeroCells]
    show 4 + _ * 4 = _ * 4
    omega
  · rw [Array.toList_append, List.take_append_of_le_length (by exact Nat.le_refl 4)]
    rfl
set_option maxRecDepth 4000 in
set_option maxHeartbeats 8000000 in
theorem ebes_behind (po pl pg pp qo ql qg qp : Int) (w : World) (h0 : 0 ≤ po) (h1 : po ≤ 8589934592) (h2 : 1 ≤ pl) (h3 : po + pl ≤ 8589934592) (h4 : 0 ≤ pp) (h5 : pp ≤ 8589934592) (g0 : 0 ≤ qo) (g1 : qo ≤ 8589934592) (g2 : 0 ≤ ql) (g3 : qo + ql ≤ 8589934592) (c1 : ¬ po < qo) (c2 : qo + ql < po + pl) :
    Calls Try.prog 52 #[.agg #[.int .i64 po, .int .i64 pl, .int .i64 pg, .int .i64 pp], .agg #[.int .i64 qo, .int .i64 ql, .int .i64 qg, .int .i64 qp]] w fun e w' => ∃ v', e = .returned v' ∧ RowE pcE w' w.heap.size 35 v' [(⟨qo + ql, po + pl - (qo + ql), pg, pp + (qo + ql) - po⟩ : Pc)] ∧ Below w.heap.size w w' := by
  obtain ⟨W, hW⟩ : ∃ z, z = (w.alloc (.cells #[.int .i64 po, .int .i64 pl, .int .i64 pg, .int .i64 pp] 35)).alloc (.cells #[.int .i64 qo, .int .i64 ql, .int .i64 qg, .int .i64 qp] 35) := ⟨_, rfl⟩
  have HW : Hid (Below w.heap.size w W ∧ W.heap.size = w.heap.size + 2) := by rw [hW]; exact ⟨bel_tr (bel_newG _ _) (bel_newG _ _), by simp⟩
  have T0 : Hid (Two9 W W w.heap.size po pl pg pp qo ql qg qp) := two_boxes w 35 po pl pg pp qo ql qg qp W hW
  have HEp : Hid (∀ n : World, Calls Try.prog 36 #[.agg #[.int .i64 po, .int .i64 pl, .int .i64 pg, .int .i64 pp]] n fun e w' => e = .returned (.int .i64 (po + pl)) ∧ Below n.heap.size n w') := fun n => epend_any po pl pg pp n h0 h1 (by omega) (by omega)
  have HEq : Hid (∀ n : World, Calls Try.prog 36 #[.agg #[.int .i64 qo, .int .i64 ql, .int .i64 qg, .int .i64 qp]] n fun e w' => e = .returned (.int .i64 (qo + ql)) ∧ Below n.heap.size n w') := fun n => epend_any qo ql qg qp n g0 g1 g2 (by omega)
  have HOp : Hid (∀ n : OwnW W, Calls Try.prog 36 #[.agg #[.int .i64 po, .int .i64 pl, .int .i64 pg, .int .i64 pp]] n.1 fun e w'' => e = .returned (.int .i64 (po + pl)) ∧ ∃ m : OwnW W, w'' = m.1) := fun n => Calls.own_of (HEp.out n.1)
  have HOq : Hid (∀ n : OwnW W, Calls Try.prog 36 #[.agg #[.int .i64 qo, .int .i64 ql, .int .i64 qg, .int .i64 qp]] n.1 fun e w'' => e = .returned (.int .i64 (qo + ql)) ∧ ∃ m : OwnW W, w'' = m.1) := fun n => Calls.own_of (HEq.out n.1)
  have hne := ownW_nonempty W
  have TN : ∀ n : OwnW W, Two9 W n.1 w.heap.size po pl pg pp qo ql qg qp := fun n => two_keep T0.out n.2
  have a0 : ∀ n : OwnW W, n.1.cell? ⟨w.heap.size, 0, none⟩ = some (.int .i64 po) := fun n => (TN n).1
  have a1 : ∀ n : OwnW W, n.1.cell? ⟨w.heap.size, 1, none⟩ = some (.int .i64 pl) := fun n => (TN n).2.1
  have a2 : ∀ n : OwnW W, n.1.cell? ⟨w.heap.size, 2, none⟩ = some (.int .i64 pg) := fun n => (TN n).2.2.1
  have a3 : ∀ n : OwnW W, n.1.cell? ⟨w.heap.size, 3, none⟩ = some (.int .i64 pp) := fun n => (TN n).2.2.2.1
  have b0 : ∀ n : OwnW W, n.1.cell? ⟨w.heap.size + 1, 0, none⟩ = some (.int .i64 qo) := fun n => (TN n).2.2.2.2.1
  have b1 : ∀ n : OwnW W, n.1.cell? ⟨w.heap.size + 1, 1, none⟩ = some (.int .i64 ql) := fun n => (TN n).2.2.2.2.2.1
  have b2 : ∀ n : OwnW W, n.1.cell? ⟨w.heap.size + 1, 2, none⟩ = some (.int .i64 qg) := fun n => (TN n).2.2.2.2.2.2.1
  have b3 : ∀ n : OwnW W, n.1.cell? ⟨w.heap.size + 1, 3, none⟩ = some (.int .i64 qp) := fun n => (TN n).2.2.2.2.2.2.2.1
  have d1 : decide (po < qo) = false := by simpa using c1
  have d2 : qo + ql < po + pl := c2
  clear TN
  go_enter Try.func52, Try.ntmps52
  go_wp2_with fail
  rw [← hW]
  clear hW
  refine wp_region_own (by kernel_rfl) (by kernel_rfl) ?_
  repeat (go_big_quiet_step (first | exact HOp.out _ | exact HOq.out _))
  refine wpQuiet_nil ?_
  rintro _ ⟨m, rfl⟩
  obtain ⟨wq, hwq⟩ : ∃ z, z = m.1 := ⟨_, rfl⟩
  have HQ : Hid (Below w.heap.size w wq) := by rw [hwq]; exact bel_tr HW.out.1 m.2
  have TQ : Hid (Two9 W wq w.heap.size po pl pg pp qo ql qg qp) := by rw [hwq]; exact two_keep T0.out m.2
  clear a0 a1 a2 a3 b0 b1 b2 b3 HOp HOq hne T0
  rw [← hwq]
  clear hwq m
  obtain ⟨a0, a1, a2, a3, b0, b1, b2, b3, _⟩ := TQ.out
  go_wp2_with fail
  have HL7 : Hid (RowE pcE wq w.heap.size 35 (.slice none 0 0) []) := rowE_nil pcE wq _ _
  have T7 : Hid (Two9 wq wq w.heap.size po pl pg pp qo ql qg qp) := by
    have t := TQ.out
    exact ⟨t.1, t.2.1, t.2.2.1, t.2.2.2.1, t.2.2.2.2.1, t.2.2.2.2.2.1, t.2.2.2.2.2.2.1, t.2.2.2.2.2.2.2.1, Below.refl _ _, t.2.2.2.2.2.2.2.2.out.2⟩
  have HPT : Hid (∀ n : World, Calls Try.prog 35 #[.agg #[.int .i64 po, .int .i64 pl, .int .i64 pg, .int .i64 pp], .int .i64 (qo + ql), .int .i64 (po + pl)] n fun e w' => e = .returned (.agg #[.int .i64 (qo + ql), .int .i64 (po + pl - (qo + ql)), .int .i64 pg, .int .i64 (pp + (qo + ql) - po)]) ∧ Below n.heap.size n w') := fun n => epart_any po pl pg pp (qo + ql) (po + pl) n h0 h1 h4 h5 (by omega) (by omega) (by omega) (by omega)
  have HSZ : Hid (w.heap.size ≤ wq.heap.size) := HQ.out.size
  go_region_held3 (fun X => X.cell? ⟨w.heap.size, 0, none⟩ = some (.int .i64 po) ∧ X.cell? ⟨w.heap.size, 1, none⟩ = some (.int .i64 pl) ∧ X.cell? ⟨w.heap.size, 2, none⟩ = some (.int .i64 pg) ∧ X.cell? ⟨w.heap.size, 3, none⟩ = some (.int .i64 pp) ∧ X.cell? ⟨w.heap.size + 1, 0, none⟩ = some (.int .i64 qo) ∧ X.cell? ⟨w.heap.size + 1, 1, none⟩ = some (.int .i64 ql) ∧ X.cell? ⟨w.heap.size + 1, 2, none⟩ = some (.int .i64 qg) ∧ X.cell? ⟨w.heap.size + 1, 3, none⟩ = some (.int .i64 qp) ∧ Hid (Below wq.heap.size wq X ∧ w.heap.size + 1 < X.heap.size)) (first | exact T7.out | exact two_keep T7.out (bel_drew _) | exact two_keep (by assumption) (bel_newG _ _) | exact two_keep (by assumption) ((bel_newG _ _).drew) | exact two_keep (by assumption) (by assumption))
    (first
      | (go_at_call 36; refine (HEq.out _).mono ?_; rintro e w1 ⟨rfl, hb1⟩)
      | (go_at_call 36; refine (HEp.out _).mono ?_; rintro e w2 ⟨rfl, hb2⟩)
      | (go_at_call 35; refine (HPT.out _).mono ?_; rintro e w3 ⟨rfl, hb3⟩)
      | (refine step_appE (E := pcE) Try.underlying41 infoEp rfl (by rfl) (.tmp 36) (.tmp 43) (by rfl) w.heap.size (.slice none 0 0) [] (by rfl) (by exact HL7.out.below (bel_tr (two_bel (by assumption)) (bel_newG _ _))) (.slice (some ⟨w3.heap.size, 0, none⟩) 1 1) [(⟨qo + ql, po + pl - (qo + ql), pg, pp + (qo + ql) - po⟩ : Pc)] (by rfl) (by exact seesE_one pcE w3 _ (⟨qo + ql, po + pl - (qo + ql), pg, pp + (qo + ql) - po⟩ : Pc) w3.heap.size rfl) (by simp [maxLen]) (by simp) (by exact Nat.le_trans HSZ.out (Nat.le_trans (two_bel (by assumption)).size (bel_newG _ _).size)) ?_; intro v4 w4 k1 k2)
      | fail)
  rename_i hS
  have hb9 : Below wq.heap.size wq _ := hS.2.2.2.2.2.2.2.2.out.1
  have HB9 : Hid (Below w.heap.size w _) := bel_tr HQ.out hb9
  go_wp2_with fail
  go_ret
  exact ⟨_, rfl, nil_app9 w3 _ (qo + ql) (po + pl - (qo + ql)) pg (pp + (qo + ql) - po) 35 w.heap.size (by have s1 := hb1.size; have s2 := hb2.size; have s3 := hb3.size; have s4 := HSZ.out; have s5 : wq.drew.heap.size = wq.heap.size := rfl; omega), HB9.out⟩
theorem grown_nil {w w' : World} (h : w.grownBy w' (Value.slice none 0 0).ownBlock) : Below w.heap.size w w' := ⟨h.os, h.tape, h.output, h.size, fun k hk => h.block k hk (by simp [Value.ownBlock])⟩
set_option maxRecDepth 4000 in
set_option maxHeartbeats 8000000 in
theorem ebes_ahead (po pl pg pp qo ql qg qp : Int) (w : World) (h0 : 0 ≤ po) (h1 : po ≤ 8589934592) (h2 : 1 ≤ pl) (h3 : po + pl ≤ 8589934592) (h4 : 0 ≤ pp) (h5 : pp ≤ 8589934592) (g0 : 0 ≤ qo) (g1 : qo ≤ 8589934592) (g2 : 0 ≤ ql) (g3 : qo + ql ≤ 8589934592) (c1 : po < qo) (c2 : ¬ qo + ql < po + pl) :
    Calls Try.prog 52 #[.agg #[.int .i64 po, .int .i64 pl, .int .i64 pg, .int .i64 pp], .agg #[.int .i64 qo, .int .i64 ql, .int .i64 qg, .int .i64 qp]] w fun e w' => ∃ v', e = .returned v' ∧ RowE pcE w' w.heap.size 35 v' [(⟨po, qo - po, pg, pp⟩ : Pc)] ∧ Below w.heap.size w w' := by
  obtain ⟨W, hW⟩ : ∃ z, z = (w.alloc (.cells #[.int .i64 po, .int .i64 pl, .int .i64 pg, .int .i64 pp] 35)).alloc (.cells #[.int .i64 qo, .int .i64 ql, .int .i64 qg, .int .i64 qp] 35) := ⟨_, rfl⟩
  have HW : Hid (Below w.heap.size w W ∧ W.heap.size = w.heap.size + 2) := by rw [hW]; exact ⟨bel_tr (bel_newG _ _) (bel_newG _ _), by simp⟩
  have T0 : Hid (Two9 W W w.heap.size po pl pg pp qo ql qg qp) := two_boxes w 35 po pl pg pp qo ql qg qp W hW
  have HEp : Hid (∀ n : World, Calls Try.prog 36 #[.agg #[.int .i64 po, .int .i64 pl, .int .i64 pg, .int .i64 pp]] n fun e w' => e = .returned (.int .i64 (po + pl)) ∧ Below n.heap.size n w') := fun n => epend_any po pl pg pp n h0 h1 (by omega) (by omega)
  have HEq : Hid (∀ n : World, Calls Try.prog 36 #[.agg #[.int .i64 qo, .int .i64 ql, .int .i64 qg, .int .i64 qp]] n fun e w' => e = .returned (.int .i64 (qo + ql)) ∧ Below n.heap.size n w') := fun n => epend_any qo ql qg qp n g0 g1 g2 (by omega)
  have HOp : Hid (∀ n : OwnW W, Calls Try.prog 36 #[.agg #[.int .i64 po, .int .i64 pl, .int .i64 pg, .int .i64 pp]] n.1 fun e w'' => e = .returned (.int .i64 (po + pl)) ∧ ∃ m : OwnW W, w'' = m.1) := fun n => Calls.own_of (HEp.out n.1)
  have HOq : Hid (∀ n : OwnW W, Calls Try.prog 36 #[.agg #[.int .i64 qo, .int .i64 ql, .int .i64 qg, .int .i64 qp]] n.1 fun e w'' => e = .returned (.int .i64 (qo + ql)) ∧ ∃ m : OwnW W, w'' = m.1) := fun n => Calls.own_of (HEq.out n.1)
  have hne := ownW_nonempty W
  have TN : ∀ n : OwnW W, Two9 W n.1 w.heap.size po pl pg pp qo ql qg qp := fun n => two_keep T0.out n.2
  have a0 : ∀ n : OwnW W, n.1.cell? ⟨w.heap.size, 0, none⟩ = some (.int .i64 po) := fun n => (TN n).1
  have a1 : ∀ n : OwnW W, n.1.cell? ⟨w.heap.size, 1, none⟩ = some (.int .i64 pl) := fun n => (TN n).2.1
  have a2 : ∀ n : OwnW W, n.1.cell? ⟨w.heap.size, 2, none⟩ = some (.int .i64 pg) := fun n => (TN n).2.2.1
  have a3 : ∀ n : OwnW W, n.1.cell? ⟨w.heap.size, 3, none⟩ = some (.int .i64 pp) := fun n => (TN n).2.2.2.1
  have b0 : ∀ n : OwnW W, n.1.cell? ⟨w.heap.size + 1, 0, none⟩ = some (.int .i64 qo) := fun n => (TN n).2.2.2.2.1
  have b1 : ∀ n : OwnW W, n.1.cell? ⟨w.heap.size + 1, 1, none⟩ = some (.int .i64 ql) := fun n => (TN n).2.2.2.2.2.1
  have b2 : ∀ n : OwnW W, n.1.cell? ⟨w.heap.size + 1, 2, none⟩ = some (.int .i64 qg) := fun n => (TN n).2.2.2.2.2.2.1
  have b3 : ∀ n : OwnW W, n.1.cell? ⟨w.heap.size + 1, 3, none⟩ = some (.int .i64 qp) := fun n => (TN n).2.2.2.2.2.2.2.1
  have HPT1 : Hid (∀ n : World, Calls Try.prog 35 #[.agg #[.int .i64 po, .int .i64 pl, .int .i64 pg, .int .i64 pp], .int .i64 po, .int .i64 qo] n fun e w' => e = .returned (.agg #[.int .i64 po, .int .i64 (qo - po), .int .i64 pg, .int .i64 pp]) ∧ Below n.heap.size n w') := fun n => by
    have := epart_any po pl pg pp po qo n h0 h1 h4 h5 (by omega) (by omega) (by omega) (by omega)
    rw [show pp + po - po = pp by omega] at this
    exact this
  have d2 : decide (qo + ql < po + pl) = false := by simpa using c2
  clear TN
  go_enter Try.func52, Try.ntmps52
  go_wp2_with fail
  rw [← hW]
  clear hW
  refine wp_region_own (by kernel_rfl) (by kernel_rfl) ?_
  repeat (go_big_quiet_step (first | exact HOp.out _ | exact HOq.out _))
  refine wpQuiet_nil ?_
  rintro _ ⟨m, rfl⟩
  obtain ⟨wq, hwq⟩ : ∃ z, z = m.1 := ⟨_, rfl⟩
  have HQ : Hid (Below w.heap.size w wq) := by rw [hwq]; exact bel_tr HW.out.1 m.2
  have TQ : Hid (Two9 W wq w.heap.size po pl pg pp qo ql qg qp) := by rw [hwq]; exact two_keep T0.out m.2
  clear a0 a1 a2 a3 b0 b1 b2 b3 HOp HOq hne T0
  rw [← hwq]
  clear hwq m
  obtain ⟨a0, a1, a2, a3, b0, b1, b2, b3, _⟩ := TQ.out
  go_wp2_with (first
    | (go_at_call 35; refine (HPT1.out _).mono ?_; rintro e w5 ⟨rfl, hb5⟩)
    | (at_builtin; refine wpList_appE (E := pcE) Try.underlying41 infoEp rfl rfl _ _ rfl w.heap.size _ [] rfl (rowE_nil pcE _ _ _) (.slice (some ⟨w5.heap.size, 0, none⟩) 1 1) [(⟨po, qo - po, pg, pp⟩ : Pc)] rfl (by exact seesE_one pcE w5 _ (⟨po, qo - po, pg, pp⟩ : Pc) w5.heap.size rfl) (by simp [maxLen]) (by simp) (by exact Nat.le_trans HQ.out.size (Nat.le_trans hb5.size (bel_newG _ _).size)) ?_; intro v6 w6 k1 k2; have HK6 : Hid (RowE pcE w6 w.heap.size 35 v6 [(⟨po, qo - po, pg, pp⟩ : Pc)] ∧ Below wq.heap.size wq w6) := ⟨k1, bel_tr (bel_tr hb5 (bel_newG _ _)) (grown_nil k2)⟩; obtain ⟨a6, c6, hv6⟩ := k1.sees.form; have hv6 : v6 = .slice a6 1 c6 := hv6; subst hv6; clear k1 k2))
  go_ret
  exact ⟨_, rfl, HK6.out.1, bel_tr HQ.out HK6.out.2⟩
set_option maxRecDepth 4000 in
set_option maxHeartbeats 8000000 in
theorem ebes_none (po pl pg pp qo ql qg qp : Int) (w : World) (h0 : 0 ≤ po) (h1 : po ≤ 8589934592) (h2 : 1 ≤ pl) (h3 : po + pl ≤ 8589934592) (h4 : 0 ≤ pp) (h5 : pp ≤ 8589934592) (g0 : 0 ≤ qo) (g1 : qo ≤ 8589934592) (g2 : 0 ≤ ql) (g3 : qo + ql ≤ 8589934592) (c1 : ¬ po < qo) (c2 : ¬ qo + ql < po + pl) :
    Calls Try.prog 52 #[.agg #[.int .i64 po, .int .i64 pl, .int .i64 pg, .int .i64 pp], .agg #[.int .i64 qo, .int .i64 ql, .int .i64 qg, .int .i64 qp]] w fun e w' => ∃ v', e = .returned v' ∧ RowE pcE w' w.heap.size 35 v' [] ∧ Below w.heap.size w w' := by
  obtain ⟨W, hW⟩ : ∃ z, z = (w.alloc (.cells #[.int .i64 po, .int .i64 pl, .int .i64 pg, .int .i64 pp] 35)).alloc (.cells #[.int .i64 qo, .int .i64 ql, .int .i64 qg, .int .i64 qp] 35) := ⟨_, rfl⟩
  have HW : Hid (Below w.heap.size w W ∧ W.heap.size = w.heap.size + 2) := by rw [hW]; exact ⟨bel_tr (bel_newG _ _) (bel_newG _ _), by simp⟩
  have T0 : Hid (Two9 W W w.heap.size po pl pg pp qo ql qg qp) := two_boxes w 35 po pl pg pp qo ql qg qp W hW
  have HEp : Hid (∀ n : World, Calls Try.prog 36 #[.agg #[.int .i64 po, .int .i64 pl, .int .i64 pg, .int .i64 pp]] n fun e w' => e = .returned (.int .i64 (po + pl)) ∧ Below n.heap.size n w') := fun n => epend_any po pl pg pp n h0 h1 (by omega) (by omega)
  have HEq : Hid (∀ n : World, Calls Try.prog 36 #[.agg #[.int .i64 qo, .int .i64 ql, .int .i64 qg, .int .i64 qp]] n fun e w' => e = .returned (.int .i64 (qo + ql)) ∧ Below n.heap.size n w') := fun n => epend_any qo ql qg qp n g0 g1 g2 (by omega)
  have HOp : Hid (∀ n : OwnW W, Calls Try.prog 36 #[.agg #[.int .i64 po, .int .i64 pl, .int .i64 pg, .int .i64 pp]] n.1 fun e w'' => e = .returned (.int .i64 (po + pl)) ∧ ∃ m : OwnW W, w'' = m.1) := fun n => Calls.own_of (HEp.out n.1)
  have HOq : Hid (∀ n : OwnW W, Calls Try.prog 36 #[.agg #[.int .i64 qo, .int .i64 ql, .int .i64 qg, .int .i64 qp]] n.1 fun e w'' => e = .returned (.int .i64 (qo + ql)) ∧ ∃ m : OwnW W, w'' = m.1) := fun n => Calls.own_of (HEq.out n.1)
  have hne := ownW_nonempty W
  have TN : ∀ n : OwnW W, Two9 W n.1 w.heap.size po pl pg pp qo ql qg qp := fun n => two_keep T0.out n.2
  have a0 : ∀ n : OwnW W, n.1.cell? ⟨w.heap.size, 0, none⟩ = some (.int .i64 po) := fun n => (TN n).1
  have a1 : ∀ n : OwnW W, n.1.cell? ⟨w.heap.size, 1, none⟩ = some (.int .i64 pl) := fun n => (TN n).2.1
  have a2 : ∀ n : OwnW W, n.1.cell? ⟨w.heap.size, 2, none⟩ = some (.int .i64 pg) := fun n => (TN n).2.2.1
  have a3 : ∀ n : OwnW W, n.1.cell? ⟨w.heap.size, 3, none⟩ = some (.int .i64 pp) := fun n => (TN n).2.2.2.1
  have b0 : ∀ n : OwnW W, n.1.cell? ⟨w.heap.size + 1, 0, none⟩ = some (.int .i64 qo) := fun n => (TN n).2.2.2.2.1
  have b1 : ∀ n : OwnW W, n.1.cell? ⟨w.heap.size + 1, 1, none⟩ = some (.int .i64 ql) := fun n => (TN n).2.2.2.2.2.1
  have b2 : ∀ n : OwnW W, n.1.cell? ⟨w.heap.size + 1, 2, none⟩ = some (.int .i64 qg) := fun n => (TN n).2.2.2.2.2.2.1
  have b3 : ∀ n : OwnW W, n.1.cell? ⟨w.heap.size + 1, 3, none⟩ = some (.int .i64 qp) := fun n => (TN n).2.2.2.2.2.2.2.1
  have d1 : decide (po < qo) = false := by simpa using c1
  have d2 : decide (qo + ql < po + pl) = false := by simpa using c2
  clear TN
  go_enter Try.func52, Try.ntmps52
  go_wp2_with fail
  rw [← hW]
  clear hW
  refine wp_region_own (by kernel_rfl) (by kernel_rfl) ?_
  repeat (go_big_quiet_step (first | exact HOp.out _ | exact HOq.out _))
  refine wpQuiet_nil ?_
  rintro _ ⟨m, rfl⟩
  obtain ⟨wq, hwq⟩ : ∃ z, z = m.1 := ⟨_, rfl⟩
  have HQ : Hid (Below w.heap.size w wq) := by rw [hwq]; exact bel_tr HW.out.1 m.2
  have TQ : Hid (Two9 W wq w.heap.size po pl pg pp qo ql qg qp) := by rw [hwq]; exact two_keep T0.out m.2
  clear a0 a1 a2 a3 b0 b1 b2 b3 HOp HOq hne T0
  rw [← hwq]
  clear hwq m
  obtain ⟨a0, a1, a2, a3, b0, b1, b2, b3, _⟩ := TQ.out
  go_wp2_with fail
  go_ret
  exact ⟨_, rfl, rowE_nil pcE _ _ _, HQ.out⟩
theorem two_row {α : Type} {E : Enc α} {w0 wr W' w' : World} {a : Nat} {po pl pg pp qo ql qg qp : Int} {e : TypeId} {v : Value} {xs : List α} (h : Two9 w0 wr a po pl pg pp qo ql qg qp) (h0 : a + 1 < w0.heap.size) (hr : RowE E wr w0.heap.size e v xs) (hb : Below wr.heap.size wr W') (hg : W'.grownBy w' v.ownBlock) : Two9 w0 w' a po pl pg pp qo ql qg qp := by
  have h1 := two_keep h hb
  obtain ⟨k1, k2⟩ := row_kept hr hb hg
  have hbel := k2 (two_bel h) (two_bel h).size
  obtain ⟨a0, a1, a2, a3, b0, b1, b2, b3, h3, h4⟩ := h1
  have hl : ∀ j, v.ownBlock = some j → w0.heap.size ≤ j := hr.block
  have k : ∀ {x : Addr} {u : Value}, x.block < w0.heap.size → W'.cell? x = some u → w'.cell? x = some u := fun {x u} hx hu => hg.cell hu (fun e => by have := hl _ e.symm; omega)
  exact ⟨k (by show a < _; omega) a0, k (by show a < _; omega) a1, k (by show a < _; omega) a2, k (by show a < _; omega) a3, k h0 b0, k h0 b1, k h0 b2, k h0 b3, hbel, Nat.lt_of_lt_of_le h4 hg.size⟩
set_option maxRecDepth 4000 in
set_option maxHeartbeats 8000000 in
theorem ebes_both (po pl pg pp qo ql qg qp : Int) (w : World) (h0 : 0 ≤ po) (h1 : po ≤ 8589934592) (h2 : 1 ≤ pl) (h3 : po + pl ≤ 8589934592) (h4 : 0 ≤ pp) (h5 : pp ≤ 8589934592) (g0 : 0 ≤ qo) (g1 : qo ≤ 8589934592) (g2 : 0 ≤ ql) (g3 : qo + ql ≤ 8589934592) (c1 : po < qo) (c2 : qo + ql < po + pl) :
    Calls Try.prog 52 #[.agg #[.int .i64 po, .int .i64 pl, .int .i64 pg, .int .i64 pp], .agg #[.int .i64 qo, .int .i64 ql, .int .i64 qg, .int .i64 qp]] w fun e w' => ∃ v', e = .returned v' ∧ RowE pcE w' w.heap.size 35 v' [(⟨po, qo - po, pg, pp⟩ : Pc), (⟨qo + ql, po + pl - (qo + ql), pg, pp + (qo + ql) - po⟩ : Pc)] ∧ Below w.heap.size w w' := by
  obtain ⟨W, hW⟩ : ∃ z, z = (w.alloc (.cells #[.int .i64 po, .int .i64 pl, .int .i64 pg, .int .i64 pp] 35)).alloc (.cells #[.int .i64 qo, .int .i64 ql, .int .i64 qg, .int .i64 qp] 35) := ⟨_, rfl⟩
  have HW : Hid (Below w.heap.size w W ∧ W.heap.size = w.heap.size + 2) := by rw [hW]; exact ⟨bel_tr (bel_newG _ _) (bel_newG _ _), by simp⟩
  have T0 : Hid (Two9 W W w.heap.size po pl pg pp qo ql qg qp) := two_boxes w 35 po pl pg pp qo ql qg qp W hW
  have HEp : Hid (∀ n : World, Calls Try.prog 36 #[.agg #[.int .i64 po, .int .i64 pl, .int .i64 pg, .int .i64 pp]] n fun e w' => e = .returned (.int .i64 (po + pl)) ∧ Below n.heap.size n w') := fun n => epend_any po pl pg pp n h0 h1 (by omega) (by omega)
  have HEq : Hid (∀ n : World, Calls Try.prog 36 #[.agg #[.int .i64 qo, .int .i64 ql, .int .i64 qg, .int .i64 qp]] n fun e w' => e = .returned (.int .i64 (qo + ql)) ∧ Below n.heap.size n w') := fun n => epend_any qo ql qg qp n g0 g1 g2 (by omega)
  have HOp : Hid (∀ n : OwnW W, Calls Try.prog 36 #[.agg #[.int .i64 po, .int .i64 pl, .int .i64 pg, .int .i64 pp]] n.1 fun e w'' => e = .returned (.int .i64 (po + pl)) ∧ ∃ m : OwnW W, w'' = m.1) := fun n => Calls.own_of (HEp.out n.1)
  have HOq : Hid (∀ n : OwnW W, Calls Try.prog 36 #[.agg #[.int .i64 qo, .int .i64 ql, .int .i64 qg, .int .i64 qp]] n.1 fun e w'' => e = .returned (.int .i64 (qo + ql)) ∧ ∃ m : OwnW W, w'' = m.1) := fun n => Calls.own_of (HEq.out n.1)
  have hne := ownW_nonempty W
  have TN : ∀ n : OwnW W, Two9 W n.1 w.heap.size po pl pg pp qo ql qg qp := fun n => two_keep T0.out n.2
  have a0 : ∀ n : OwnW W, n.1.cell? ⟨w.heap.size, 0, none⟩ = some (.int .i64 po) := fun n => (TN n).1
  have a1 : ∀ n : OwnW W, n.1.cell? ⟨w.heap.size, 1, none⟩ = some (.int .i64 pl) := fun n => (TN n).2.1
  have a2 : ∀ n : OwnW W, n.1.cell? ⟨w.heap.size, 2, none⟩ = some (.int .i64 pg) := fun n => (TN n).2.2.1
  have a3 : ∀ n : OwnW W, n.1.cell? ⟨w.heap.size, 3, none⟩ = some (.int .i64 pp) := fun n => (TN n).2.2.2.1
  have b0 : ∀ n : OwnW W, n.1.cell? ⟨w.heap.size + 1, 0, none⟩ = some (.int .i64 qo) := fun n => (TN n).2.2.2.2.1
  have b1 : ∀ n : OwnW W, n.1.cell? ⟨w.heap.size + 1, 1, none⟩ = some (.int .i64 ql) := fun n => (TN n).2.2.2.2.2.1
  have b2 : ∀ n : OwnW W, n.1.cell? ⟨w.heap.size + 1, 2, none⟩ = some (.int .i64 qg) := fun n => (TN n).2.2.2.2.2.2.1
  have b3 : ∀ n : OwnW W, n.1.cell? ⟨w.heap.size + 1, 3, none⟩ = some (.int .i64 qp) := fun n => (TN n).2.2.2.2.2.2.2.1
  have HPT1 : Hid (∀ n : World, Calls Try.prog 35 #[.agg #[.int .i64 po, .int .i64 pl, .int .i64 pg, .int .i64 pp], .int .i64 po, .int .i64 qo] n fun e w' => e = .returned (.agg #[.int .i64 po, .int .i64 (qo - po), .int .i64 pg, .int .i64 pp]) ∧ Below n.heap.size n w') := fun n => by
    have := epart_any po pl pg pp po qo n h0 h1 h4 h5 (by omega) (by omega) (by omega) (by omega)
    rw [show pp + po - po = pp by omega] at this
    exact this
  clear TN
  go_enter Try.func52, Try.ntmps52
  go_wp2_with fail
  rw [← hW]
  clear hW
  refine wp_region_own (by kernel_rfl) (by kernel_rfl) ?_
  repeat (go_big_quiet_step (first | exact HOp.out _ | exact HOq.out _))
  refine wpQuiet_nil ?_
  rintro _ ⟨m, rfl⟩
  obtain ⟨wq, hwq⟩ : ∃ z, z = m.1 := ⟨_, rfl⟩
  have HQ : Hid (Below w.heap.size w wq) := by rw [hwq]; exact bel_tr HW.out.1 m.2
  have TQ : Hid (Two9 W wq w.heap.size po pl pg pp qo ql qg qp) := by rw [hwq]; exact two_keep T0.out m.2
  have HQW : Hid (Below W.heap.size W wq) := by rw [hwq]; exact m.2
  clear a0 a1 a2 a3 b0 b1 b2 b3 HOp HOq hne T0
  rw [← hwq]
  clear hwq m
  obtain ⟨a0, a1, a2, a3, b0, b1, b2, b3, _⟩ := TQ.out
  go_upto_region 7 with (first
    | (go_at_call 35; refine (HPT1.out _).mono ?_; rintro e w5 ⟨rfl, hb5⟩)
    | (at_builtin; refine wpList_appE (E := pcE) Try.underlying41 infoEp rfl rfl _ _ rfl W.heap.size _ [] rfl (rowE_nil pcE _ _ _) (.slice (some ⟨w5.heap.size, 0, none⟩) 1 1) [(⟨po, qo - po, pg, pp⟩ : Pc)] rfl (by exact seesE_one pcE w5 _ (⟨po, qo - po, pg, pp⟩ : Pc) w5.heap.size rfl) (by simp [maxLen]) (by simp) (by exact Nat.le_trans HQW.out.size (Nat.le_trans hb5.size (bel_newG _ _).size)) ?_; intro v6 w6 k1 k2; have HK6 : Hid (RowE pcE w6 W.heap.size 35 v6 [(⟨po, qo - po, pg, pp⟩ : Pc)] ∧ Below wq.heap.size wq w6) := ⟨k1, bel_tr (bel_tr hb5 (bel_newG _ _)) (grown_nil k2)⟩; obtain ⟨a6, c6, hv6⟩ := k1.sees.form; have hv6 : v6 = .slice a6 1 c6 := hv6; subst hv6; clear k1 k2))
  clear a0 a1 a2 a3 b0 b1 b2 b3
  have TQ6 : Hid (Two9 W w6 w.heap.size po pl pg pp qo ql qg qp) := two_keep TQ.out HK6.out.2
  have HL7 : Hid (RowE pcE w6 W.heap.size 35 (.slice a6 1 c6) [(⟨po, qo - po, pg, pp⟩ : Pc)]) := HK6.out.1
  have HSZ : Hid (W.heap.size ≤ w6.heap.size ∧ w.heap.size + 1 < W.heap.size) := ⟨(bel_tr HQW.out HK6.out.2).size, by show _ < _; have := HW.out.2; omega⟩
  clear HK6 TQ HQ HQW
  have HPT : Hid (∀ n : World, Calls Try.prog 35 #[.agg #[.int .i64 po, .int .i64 pl, .int .i64 pg, .int .i64 pp], .int .i64 (qo + ql), .int .i64 (po + pl)] n fun e w' => e = .returned (.agg #[.int .i64 (qo + ql), .int .i64 (po + pl - (qo + ql)), .int .i64 pg, .int .i64 (pp + (qo + ql) - po)]) ∧ Below n.heap.size n w') := fun n => epart_any po pl pg pp (qo + ql) (po + pl) n h0 h1 h4 h5 (by omega) (by omega) (by omega) (by omega)
  go_region_held3 (fun X => X.cell? ⟨w.heap.size, 0, none⟩ = some (.int .i64 po) ∧ X.cell? ⟨w.heap.size, 1, none⟩ = some (.int .i64 pl) ∧ X.cell? ⟨w.heap.size, 2, none⟩ = some (.int .i64 pg) ∧ X.cell? ⟨w.heap.size, 3, none⟩ = some (.int .i64 pp) ∧ X.cell? ⟨w.heap.size + 1, 0, none⟩ = some (.int .i64 qo) ∧ X.cell? ⟨w.heap.size + 1, 1, none⟩ = some (.int .i64 ql) ∧ X.cell? ⟨w.heap.size + 1, 2, none⟩ = some (.int .i64 qg) ∧ X.cell? ⟨w.heap.size + 1, 3, none⟩ = some (.int .i64 qp) ∧ Hid (Below W.heap.size W X ∧ w.heap.size + 1 < X.heap.size)) (first | assumption | exact TQ6.out | exact two_keep TQ6.out (bel_drew _) | exact two_keep (by assumption) (bel_newG _ _) | exact two_keep (by assumption) (by assumption))
    (first
      | (go_at_call 36; refine (HEq.out _).mono ?_; rintro e w1 ⟨rfl, hb1⟩)
      | (go_at_call 36; refine (HEp.out _).mono ?_; rintro e w2 ⟨rfl, hb2⟩)
      | (go_at_call 35; refine (HPT.out _).mono ?_; rintro e w3 ⟨rfl, hb3⟩)
      | (refine step_appE (E := pcE) Try.underlying41 infoEp rfl (by rfl) (.tmp 36) (.tmp 43) (by rfl) W.heap.size (.slice a6 1 c6) [(⟨po, qo - po, pg, pp⟩ : Pc)] (by rfl) (by exact HL7.out.below (bel_tr (bel_tr (bel_drew w6) (bel_tr hb1 (bel_tr hb2 hb3))) (bel_newG _ _))) (.slice (some ⟨w3.heap.size, 0, none⟩) 1 1) [(⟨qo + ql, po + pl - (qo + ql), pg, pp + (qo + ql) - po⟩ : Pc)] (by rfl) (by exact seesE_one pcE w3 _ (⟨qo + ql, po + pl - (qo + ql), pg, pp + (qo + ql) - po⟩ : Pc) w3.heap.size rfl) (by simp [maxLen]) (by simp) (by exact Nat.le_trans HSZ.out.1 (Nat.le_trans (bel_tr (bel_drew w6) (bel_tr hb1 (bel_tr hb2 hb3))).size (bel_newG _ _).size)) ?_; intro v4 w4 k1 k2; have hT4 : Two9 W w4 w.heap.size po pl pg pp qo ql qg qp := two_row TQ6.out HSZ.out.2 HL7.out (bel_tr (bel_tr (bel_drew w6) (bel_tr hb1 (bel_tr hb2 hb3))) (bel_newG w3 _)) k2)
      | fail)
  have HB9 : Hid (Below w.heap.size w w4) := bel_tr HW.out.1 (two_bel hT4)
  have HK9 : Hid (RowE pcE w4 w.heap.size 35 v4 _) := k1.mono (by have := HW.out.2; omega)
  clear k1 k2
  go_wp2_with fail
  go_ret
  exact ⟨_, rfl, HK9.out, HB9.out⟩
end Go.Proofs.Ythdmclhccbjgoaa
