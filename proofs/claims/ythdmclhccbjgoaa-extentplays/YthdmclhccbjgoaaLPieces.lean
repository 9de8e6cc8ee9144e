/- dolmenlaw9.piece and pieces: two lists of pieces that are one. -/
import Derived.Test.YthdmclhccbjgoaaRClear
import Derived.Test.YthdmclhccbjgoaaKitOwn9
import Derived.Laws.StructEq
namespace Go.Proofs.Ythdmclhccbjgoaa
open Go.RowKit Kit
set_option linter.unusedVariables false
set_option maxRecDepth 4000 in
set_option maxHeartbeats 4000000 in
theorem lpiece_any (po pl pg pp : Int) (w : World) : Calls Try.prog 15 #[.agg #[.int .i64 po, .int .i64 pl, .int .i64 pg, .int .i64 pp]] w fun e w' => e = .returned (.agg #[.int .i64 po, .int .i64 pl, .int .i64 pg, .int .i64 pp]) ∧ Below w.heap.size w w' := by
  go_enter Try.func15, Try.ntmps15
  go_wp2
  refine bodyPost_ret (v := .agg #[.int .i64 po, .int .i64 pl, .int .i64 pg, .int .i64 pp]) (by simp [results, Try.results15, go_sem]) rfl ⟨rfl, ?_⟩
  exact bel_tr (bel_newG _ _) (bel_newG _ _)
set_option maxRecDepth 4000 in
set_option maxHeartbeats 4000000 in
theorem lpieces_any (va vb : Value) (ps : List Pc) (w : World) (ha : SeesE pcE w va ps) (hb : SeesE pcE w vb ps) (hl : ps.length ≤ 100000) :
    Calls Try.prog 13 #[va, vb] w fun e w' => e = .returned (.bool true) ∧ Below w.heap.size w w' := by
  obtain ⟨ao, ac, rfl⟩ := ha.form
  obtain ⟨bo, bc, rfl⟩ := hb.form
  have HA : Hid (SeesE pcE w (.slice ao ps.length ac) ps) := ha
  have HB : Hid (SeesE pcE w (.slice bo ps.length bc) ps) := hb
  have hli : (ps.length : Int) ≤ 100000 := by omega
  clear ha hb
  go_enter Try.func13, Try.ntmps13
  go_wp2
  go_loopw [5] (fun s5 wr => ∃ i : Nat, i ≤ ps.length ∧ s5 = .int .i64 (i : Int) ∧ Hid (Below w.heap.size w wr)) (fun s5 _ => ps.length - (intOf s5).toNat)
  case atStart => exact ⟨0, Nat.zero_le _, rfl, Below.refl _ _⟩
  case round =>
    obtain ⟨i, hi, rfl, HW⟩ := hrel
    by_cases hlt : i < ps.length
    · have hli2 : (i : Int) < (ps.length : Int) := by omega
      have hi0 : (0 : Int) ≤ (i : Int) := by omega
      obtain ⟨A1, off, e, hnn, hA1, hc⟩ := pc_cells (HA.out.below HW.out) (by omega)
      obtain ⟨B1, off2, e2, hnn2, hB1, hd⟩ := pc_cells (HB.out.below HW.out) (by omega)
      clear hnn hnn2
      subst e e2
      obtain ⟨c0, c1, c2, c3⟩ := hc i hlt
      obtain ⟨d0, d1, d2, d3⟩ := hd i hlt
      obtain ⟨p, hp⟩ : ∃ p, p = ps[i] := ⟨_, rfl⟩
      rw [← hp] at c0 c1 c2 c3 d0 d1 d2 d3
      clear hp hc hd
      obtain ⟨po, pl, pg, pp⟩ := p
      simp only at c0 c1 c2 c3 d0 d1 d2 d3
      have t0 : ∀ n : OwnW wr, n.1.cell? ⟨A1, off + i * 4, none⟩ = some (.int .i64 po) := fun n => (n.2.cell (by exact hA1)).trans c0
      have t1 : ∀ n : OwnW wr, n.1.cell? ⟨A1, off + i * 4 + 1, none⟩ = some (.int .i64 pl) := fun n => (n.2.cell (by exact hA1)).trans c1
      have t2 : ∀ n : OwnW wr, n.1.cell? ⟨A1, off + i * 4 + 2, none⟩ = some (.int .i64 pg) := fun n => (n.2.cell (by exact hA1)).trans c2
      have t3 : ∀ n : OwnW wr, n.1.cell? ⟨A1, off + i * 4 + 3, none⟩ = some (.int .i64 pp) := fun n => (n.2.cell (by exact hA1)).trans c3
      have u0' : ∀ n : OwnW wr, n.1.cell? ⟨B1, off2 + i * 4, none⟩ = some (.int .i64 po) := fun n => (n.2.cell (by exact hB1)).trans d0
      have u1' : ∀ n : OwnW wr, n.1.cell? ⟨B1, off2 + i * 4 + 1, none⟩ = some (.int .i64 pl) := fun n => (n.2.cell (by exact hB1)).trans d1
      have u2' : ∀ n : OwnW wr, n.1.cell? ⟨B1, off2 + i * 4 + 2, none⟩ = some (.int .i64 pg) := fun n => (n.2.cell (by exact hB1)).trans d2
      have u3' : ∀ n : OwnW wr, n.1.cell? ⟨B1, off2 + i * 4 + 3, none⟩ = some (.int .i64 pp) := fun n => (n.2.cell (by exact hB1)).trans d3
      have hne := ownW_nonempty wr
      have HPc : Hid (∀ n : OwnW wr, Calls Try.prog 15 #[.agg #[.int .i64 po, .int .i64 pl, .int .i64 pg, .int .i64 pp]] n.1 fun e w'' => e = .returned (.agg #[.int .i64 po, .int .i64 pl, .int .i64 pg, .int .i64 pp]) ∧ ∃ m : OwnW wr, w'' = m.1) := fun n => Calls.own_of (lpiece_any po pl pg pp n.1)
      go_wp2
      refine wp_region_own (by kernel_rfl) (by kernel_rfl) ?_
      repeat (go_big_quiet_step (exact HPc.out _))
      refine wpQuiet_nil ?_
      intro _ hw'
      obtain ⟨m, hw''⟩ := hw'
      subst hw''
      have HM : Hid (Below wr.heap.size wr m.1) := m.2
      go_wp2
      go_roundw
      case rel => exact ⟨i + 1, by omega, by go_num, bel_tr HW.out HM.out⟩
      case measure => simp [intOf]; omega
    · have hli2 : ¬ (i : Int) < (ps.length : Int) := by omega
      go_wp2
      go_ret
      exact ⟨rfl, HW.out⟩
end Go.Proofs.Ythdmclhccbjgoaa
