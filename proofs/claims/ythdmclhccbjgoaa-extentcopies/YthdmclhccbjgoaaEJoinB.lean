/- package extent: join. -/
import Derived.Test.YthdmclhccbjgoaaEMapT
import Derived.Test.YthdmclhccbjgoaaMPut
namespace Go.Proofs.Ythdmclhccbjgoaa
open Go.RowKit Kit
set_option linter.unusedVariables false

set_option maxRecDepth 4000 in
set_option maxHeartbeats 8000000 in
theorem ejoin_no (p B i : Nat) (v : Value) (ps : List Pc) (w : World) (hm : EMap w p B v ps) (hl : ps.length ≤ 1000) (hi : i + 1 < ps.length) (hf : Fits ps) (ht : touchB (ps[i]'(by omega)) ps[i + 1] = false) :
    Calls Try.prog 43 #[.pointer (some ⟨p, 0, none⟩), .int .i64 (i : Int)] w fun e w' => e = .returned (.tuple #[]) ∧ Below w.heap.size w w' := by
  obtain ⟨ao, cap, rfl⟩ := hm.row.sees.form
  obtain ⟨n, hn⟩ : ∃ n, n = ps.length := ⟨_, rfl⟩
  obtain ⟨g, off, e, hnn, hg, hc⟩ := pc_cells hm.row.sees (by omega)
  subst e
  clear hnn
  rw [← hn] at hm
  have q0 : ∀ n' : OwnW w, n'.1.cell? ⟨p, 0, none⟩ = some (.slice (some ⟨g, off, none⟩) n cap) := fun n' => blk_cell (hm.below n'.2).cell rfl
  obtain ⟨c0, c1, c2, c3⟩ := hc i (by omega)
  obtain ⟨d0, d1, d2, d3⟩ := hc (i + 1) hi
  have f1 := hf _ (List.getElem_mem (l := ps) (n := i) (by omega))
  obtain ⟨x, hx⟩ : ∃ x, x = ps[i]'(by omega) := ⟨_, rfl⟩
  obtain ⟨y, hy⟩ : ∃ y, y = ps[i + 1] := ⟨_, rfl⟩
  rw [← hx] at c0 c1 c2 c3 f1 ht
  rw [← hy] at d0 d1 d2 d3 ht
  clear hx hy hc
  obtain ⟨f1, f2, f3, f4, f5, f6, f7⟩ := f1
  obtain ⟨po, pl, pg, pp⟩ := x
  obtain ⟨qo, ql, qg, qp⟩ := y
  simp only at c0 c1 c2 c3 d0 d1 d2 d3 f1 f2 f3 f4 f5 f6 f7
  have t : ∀ n' : OwnW w, ∀ {a : Nat} {u : Value}, w.cell? ⟨g, a, none⟩ = some u → n'.1.cell? ⟨g, a, none⟩ = some u := fun n' _ _ h => (n'.2.cell (by exact hg)).trans h
  have t0 : ∀ n' : OwnW w, n'.1.cell? ⟨g, off + i * 4, none⟩ = some (.int .i64 po) := fun n' => t n' c0
  have t1 : ∀ n' : OwnW w, n'.1.cell? ⟨g, off + i * 4 + 1, none⟩ = some (.int .i64 pl) := fun n' => t n' c1
  have t2 : ∀ n' : OwnW w, n'.1.cell? ⟨g, off + i * 4 + 2, none⟩ = some (.int .i64 pg) := fun n' => t n' c2
  have t3 : ∀ n' : OwnW w, n'.1.cell? ⟨g, off + i * 4 + 3, none⟩ = some (.int .i64 pp) := fun n' => t n' c3
  have u0 : ∀ n' : OwnW w, n'.1.cell? ⟨g, off + (i + 1) * 4, none⟩ = some (.int .i64 qo) := fun n' => t n' d0
  have u1 : ∀ n' : OwnW w, n'.1.cell? ⟨g, off + (i + 1) * 4 + 1, none⟩ = some (.int .i64 ql) := fun n' => t n' d1
  have u2 : ∀ n' : OwnW w, n'.1.cell? ⟨g, off + (i + 1) * 4 + 2, none⟩ = some (.int .i64 qg) := fun n' => t n' d2
  have u3 : ∀ n' : OwnW w, n'.1.cell? ⟨g, off + (i + 1) * 4 + 3, none⟩ = some (.int .i64 qp) := fun n' => t n' d3
  have HG : Hid (∀ n' : OwnW w, Calls Try.prog 56 #[.agg #[.int .i64 po, .int .i64 pl, .int .i64 pg, .int .i64 pp], .agg #[.int .i64 qo, .int .i64 ql, .int .i64 qg, .int .i64 qp]] n'.1 fun e w'' => e = .returned (.bool false) ∧ ∃ m : OwnW w, w'' = m.1) := fun n' => Calls.own_of (by
    have := egoes_any po pl pg pp qo ql qg qp n'.1 f1 (by omega) (by omega) (by omega) f6 (by omega)
    rw [ht] at this
    exact this)
  have hne := ownW_nonempty w
  have hin : (i : Int) + 1 < (n : Int) := by omega
  have hin2 : (i : Int) < (n : Int) := by omega
  have hi0 : (0 : Int) ≤ (i : Int) := by omega
  have hi1 : (0 : Int) ≤ (i : Int) + 1 := by omega
  have hin3 : ¬ ((n : Int) ≤ (i : Int) + 1) := by omega
  have hnl : (n : Int) ≤ 1000 := by omega
  have htn : ((i : Int) + 1).toNat = i + 1 := by omega
  have hw : IntKind.i64.wrap ((i : Int) + 1) = (i : Int) + 1 := by rw [IntKind.wrap_i64]; omega
  have hd1 : decide ((i : Int) < 0) = false := by simp; 
  have hd2 : decide ((n : Int) ≤ (i : Int) + 1) = false := by rw [decide_eq_false_iff_not]; exact hin3
  clear t c0 c1 c2 c3 d0 d1 d2 d3 hm hn hl hi hf
  go_enter Try.func43, Try.ntmps43
  go_wp2_with fail
  refine wp_region_own (by kernel_rfl) (by kernel_rfl) ?_
  repeat (go_big_quiet_step (exact HG.out _))
  refine wpQuiet_nil ?_
  rintro _ ⟨m, rfl⟩
  have HM : Hid (Below w.heap.size w m.1) := m.2
  go_wp2_with fail
  refine bodyPost_ret (v := .tuple #[]) (by simp [results, Try.results43, go_sem]) rfl ⟨rfl, ?_⟩
  exact HM.out
end Go.Proofs.Ythdmclhccbjgoaa
