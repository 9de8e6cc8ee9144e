/- package extent: join. -/
import Derived.Test.YthdmclhccbjgoaaEMapT
import Derived.Test.YthdmclhccbjgoaaMPut
import Derived.BigRegion
namespace Go.Proofs.Ythdmclhccbjgoaa
open Go.RowKit Kit
set_option linter.unusedVariables false

set_option maxRecDepth 4000 in
set_option maxHeartbeats 8000000 in
theorem ejoin_yes (p B i : Nat) (v : Value) (ps : List Pc) (w : World) (hm : EMap w p B v ps) (hl : ps.length ≤ 1000) (hi : i + 1 < ps.length) (hf : Fits ps) (ht : touchB (ps[i]'(by omega)) ps[i + 1] = true) :
    Calls Try.prog 43 #[.pointer (some ⟨p, 0, none⟩), .int .i64 (i : Int)] w fun e w' => e = .returned (.tuple #[]) ∧ ∃ v', EMap w' p B v' (joinAt i ps) ∧ Turn9 p v v' w w' := by
  have HM9 : Hid (EMap w p B v ps) := hm
  obtain ⟨g0, cap, hv, hBg, hg, hfz, hc0⟩ := rowE_form hm.row (by omega)
  subst hv
  obtain ⟨n, hn⟩ : ∃ n, n = ps.length := ⟨_, rfl⟩
  have hc : ∀ (i : Nat) (hi : i < ps.length), w.cell? ⟨g0, i * 4, none⟩ = some (.int .i64 ps[i].off) ∧ w.cell? ⟨g0, i * 4 + 1, none⟩ = some (.int .i64 ps[i].len) ∧ w.cell? ⟨g0, i * 4 + 2, none⟩ = some (.int .i64 ps[i].page) ∧ w.cell? ⟨g0, i * 4 + 3, none⟩ = some (.int .i64 ps[i].pos) := fun i hi => ⟨hc0 i hi 0 _ rfl, hc0 i hi 1 _ rfl, hc0 i hi 2 _ rfl, hc0 i hi 3 _ rfl⟩
  rw [← hn] at hm HM9 ⊢
  have q0 : ∀ n' : OwnW w, n'.1.cell? ⟨p, 0, none⟩ = some (.slice (some ⟨g0, 0, none⟩) n cap) := fun n' => blk_cell (hm.below n'.2).cell rfl
  obtain ⟨c0, c1, c2, c3⟩ := hc i (by omega)
  obtain ⟨d0, d1, d2, d3⟩ := hc (i + 1) hi
  have f1 := hf _ (List.getElem_mem (l := ps) (n := i) (by omega))
  obtain ⟨x, hx⟩ : ∃ x, x = ps[i]'(by omega) := ⟨_, rfl⟩
  obtain ⟨y, hy⟩ : ∃ y, y = ps[i + 1] := ⟨_, rfl⟩
  rw [← hx] at c0 c1 c2 c3 f1 ht
  rw [← hy] at d0 d1 d2 d3 ht
  have f9 := hf _ (List.getElem_mem (l := ps) (n := i + 1) hi)
  rw [← hy] at f9
  have hx9 := hx
  have hy9 := hy
  clear hx hy hc
  obtain ⟨f1, f2, f3, f4, f5, f6, f7⟩ := f1
  obtain ⟨e1, e2, e3, e4, e5, e6, e7⟩ := f9
  obtain ⟨po, pl, pg, pp⟩ := x
  obtain ⟨qo, ql, qg, qp⟩ := y
  simp only at c0 c1 c2 c3 d0 d1 d2 d3 f1 f2 f3 f4 f5 f6 f7 e1 e2 e3 e4 e5 e6 e7
  have t : ∀ n' : OwnW w, ∀ {a : Nat} {u : Value}, w.cell? ⟨g0, a, none⟩ = some u → n'.1.cell? ⟨g0, a, none⟩ = some u := fun n' _ _ h => (n'.2.cell (by exact hg)).trans h
  have t0 : ∀ n' : OwnW w, n'.1.cell? ⟨g0, i * 4, none⟩ = some (.int .i64 po) := fun n' => t n' c0
  have t1 : ∀ n' : OwnW w, n'.1.cell? ⟨g0, i * 4 + 1, none⟩ = some (.int .i64 pl) := fun n' => t n' c1
  have t2 : ∀ n' : OwnW w, n'.1.cell? ⟨g0, i * 4 + 2, none⟩ = some (.int .i64 pg) := fun n' => t n' c2
  have t3 : ∀ n' : OwnW w, n'.1.cell? ⟨g0, i * 4 + 3, none⟩ = some (.int .i64 pp) := fun n' => t n' c3
  have u0 : ∀ n' : OwnW w, n'.1.cell? ⟨g0, (i + 1) * 4, none⟩ = some (.int .i64 qo) := fun n' => t n' d0
  have u1 : ∀ n' : OwnW w, n'.1.cell? ⟨g0, (i + 1) * 4 + 1, none⟩ = some (.int .i64 ql) := fun n' => t n' d1
  have u2 : ∀ n' : OwnW w, n'.1.cell? ⟨g0, (i + 1) * 4 + 2, none⟩ = some (.int .i64 qg) := fun n' => t n' d2
  have u3 : ∀ n' : OwnW w, n'.1.cell? ⟨g0, (i + 1) * 4 + 3, none⟩ = some (.int .i64 qp) := fun n' => t n' d3
  have HG : Hid (∀ n' : OwnW w, Calls Try.prog 56 #[.agg #[.int .i64 po, .int .i64 pl, .int .i64 pg, .int .i64 pp], .agg #[.int .i64 qo, .int .i64 ql, .int .i64 qg, .int .i64 qp]] n'.1 fun e w'' => e = .returned (.bool true) ∧ ∃ m : OwnW w, w'' = m.1) := fun n' => Calls.own_of (by
    have := egoes_any po pl pg pp qo ql qg qp n'.1 f1 (by omega) (by omega) (by omega) f6 (by omega)
    rw [ht] at this
    exact this)
  have hne := ownW_nonempty w
  have hin : (i : Int) + 1 < (n : Int) := by omega
  have hin2 : (i : Int) < (n : Int) := by omega
  have hi0 : (0 : Int) ≤ (i : Int) := by omega
  have hi1 : (0 : Int) ≤ (i : Int) + 1 := by omega
  have hin3 : ¬ ((n : Int) ≤ (i : Int) + 1) := by omega
  have hnl : (n : Int) ≤ 1000 := by omega
  have htn : ((i : Int) + 1).toNat = i + 1 := by omega
  have hw : IntKind.i64.wrap ((i : Int) + 1) = (i : Int) + 1 := by rw [IntKind.wrap_i64]; omega
  have hd1 : decide ((i : Int) < 0) = false := by simp; 
  have hd2 : decide ((n : Int) ≤ (i : Int) + 1) = false := by rw [decide_eq_false_iff_not]; exact hin3
  have HI : Hid (i + 1 < ps.length ∧ n = ps.length) := ⟨hi, hn⟩
  have HXY : Hid (∀ (h : i < ps.length), ps[i] = (⟨po, pl, pg, pp⟩ : Pc)) := fun h => hx9.symm
  have HT9 : Hid (joinAt i ps = (ps.set i ⟨po, pl + ql, pg, pp⟩).take (i + 1) ++ (ps.set i ⟨po, pl + ql, pg, pp⟩).drop (i + 2)) := by
    show _ = _
    unfold joinAt
    rw [List.drop_eq_getElem_cons (by omega : i < ps.length), List.drop_eq_getElem_cons hi, ← hx9, ← hy9, join0_t ht]
    rw [List.take_succ_eq_append_getElem (by simp; omega), List.getElem_set_self, List.take_set_of_le (Nat.le_refl _), List.drop_set_of_lt (by omega), List.append_assoc]
    rfl
  have hnc9 := (rowE_un (n := n) HM9.out.row).2.2
  have hcap : n ≤ cap := hnc9.1
  have hcapm : cap ≤ 9223372036854775807 := hnc9.2.1
  clear t c0 c1 c2 c3 d0 d1 d2 d3 hm hn hl hi hf hx9 hy9 hc0 hnc9 ht
  go_enter Try.func43, Try.ntmps43
  go_wp2_with fail
  refine wp_region_own (by kernel_rfl) (by kernel_rfl) ?_
  repeat (go_big_quiet_step (exact HG.out _))
  refine wpQuiet_nil ?_
  rintro _ ⟨m, rfl⟩
  have HM : Hid (Below w.heap.size w m.1) := m.2
  have m0 := q0 m
  have m1 := t1 m
  have m2 := u1 m
  have hcg : (m.1.frozen? ⟨g0, i * 4 + 1, none⟩) = false := by
    have := rowE_un (HM9.out.row.below HM.out)
    obtain ⟨_, _, _, _, _, cur, h5, _⟩ := this
    exact blk_frozen h5 _
  obtain ⟨wq, hwq⟩ : ∃ z, z = m.1 := ⟨_, rfl⟩
  rw [← hwq] at HM m0 m1 m2 hcg ⊢
  clear q0 t0 t1 t2 t3 u0 u1 u2 u3 hne hwq m HG
  go_wp2_with fail
  go_region
  obtain ⟨w2, hw2⟩ : ∃ z, z = (wq.setCell ⟨g0, i * 4 + 1, none⟩ (.int .i64 (pl + ql))).drew := ⟨_, rfl⟩
  rw [← hw2]
  have HMQ : Hid (EMap wq p B (.slice (some ⟨g0, 0, none⟩) n cap) ps) := HM9.out.below HM.out
  have HR2 : Hid (RowE pcE w2 B 35 (.slice (some ⟨g0, 0, none⟩) n cap) (ps.set i ⟨po, pl + ql, pg, pp⟩)) := by
    rw [hw2]
    refine RowE.below (rowE_put HMQ.out.row i (by have := HI.out.1; omega) 1 (by decide) (.int .i64 (pl + ql)) ⟨po, pl + ql, pg, pp⟩ (by rw [HXY.out]; rfl)) (bel_drew _)
  have HG2 : Hid (wq.grownBy w2 (some g0)) := by
    rw [hw2]
    exact ⟨rfl, rfl, rfl, by simp [World.setCell], fun k hk hne => by exact Below.heap_setCell wq ⟨g0, i * 4 + 1, none⟩ (.int .i64 (pl + ql)) k (fun e => hne (by rw [e]))⟩
  have hpg : p ≠ g0 := fun e => HMQ.out.off (by rw [e]; rfl)
  have HP2 : Hid (w2.heap[p]? = some (.cells #[.slice (some ⟨g0, 0, none⟩) n cap] 59)) := by
    show _ = _
    rw [HG2.out.block p (blk_lt HMQ.out.cell) (by simpa using hpg)]; exact HMQ.out.cell
  have q2 : w2.cell? ⟨p, 0, none⟩ = some (.slice (some ⟨g0, 0, none⟩) n cap) := blk_cell HP2.out rfl
  obtain ⟨n5, hn5⟩ : ∃ z, z = i + 1 + (n - (i + 2)) := ⟨_, rfl⟩
  have HDl : Hid (Calls Try.prog 57 #[.slice (some ⟨g0, 0, none⟩) n cap, .int .i64 ((i : Int) + 1), .int .i64 ((i : Int) + 2)] w2 fun e w' => e = .returned (.slice (some ⟨g0, 0, none⟩) n5 cap) ∧ RowE pcE w' B 35 (.slice (some ⟨g0, 0, none⟩) n5 cap) (joinAt i ps) ∧ w2.grownBy w' (some g0)) := by
    have := sdel_any B g0 n cap (i + 1) (i + 2) _ w2 HR2.out (by omega) (by have := HI.out; omega)
    rw [← hn5, ← HT9.out, show ((i + 1 : Nat) : Int) = (i : Int) + 1 by omega, show ((i + 2 : Nat) : Int) = (i : Int) + 2 by omega] at this
    exact this
  clear hw2 hn5 m0 m1 m2 hcg
  go_wp2_with (go_at_call 57; refine HDl.out.mono ?_; rintro e w5 ⟨rfl, k1, k2⟩; have HK5 : Hid (RowE pcE w5 B 35 (.slice (some ⟨g0, 0, none⟩) n5 cap) (joinAt i ps) ∧ wq.grownBy w5 (some g0)) := ⟨k1, grown_trans HG2.out k2⟩; have hp5 : w5.heap[p]? = some (.cells #[.slice (some ⟨g0, 0, none⟩) n cap] 59) := by { rw [k2.block p (blk_lt HP2.out) (by simpa using hpg)]; exact HP2.out }; have q5 := blk_cell hp5 (j := 0) rfl; have f5 := blk_frozen hp5 0; clear k1 k2 hp5)
  go_end0
  have hst := emap_store HMQ.out HK5.out.2 HK5.out.1 (fun k hk => .inl hk)
  exact ⟨rfl, _, hst.1, (turn9_below HM.out).trans hst.2⟩
end Go.Proofs.Ythdmclhccbjgoaa
