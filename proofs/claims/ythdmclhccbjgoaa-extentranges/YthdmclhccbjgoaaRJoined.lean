/- dolmenref9.joined. -/
import Derived.Test.YthdmclhccbjgoaaRClear
import Derived.Test.YthdmclhccbjgoaaMExt4
import Derived.Test.YthdmclhccbjgoaaKitSt2
import Derived.Deep.QuietTactic
import Derived.BigQuiet
namespace Go.Proofs.Ythdmclhccbjgoaa
open Go.RowKit Kit
set_option linter.unusedVariables false

theorem bel_drewN9 (w : World) (n : Nat) : Below w.heap.size w (w.drewN n) := ⟨rfl, rfl, rfl, Nat.le_refl _, fun _ _ => rfl⟩
theorem fits_take {l : List Pc} (h : Fits l) (i : Nat) : Fits (l.take i) := fun p hp => h p (List.mem_of_mem_take hp)
set_option maxRecDepth 4000 in
set_option maxHeartbeats 4000000 in
theorem rjoined_any (ps : List Pc) (v : Value) (w : World) (hs : SeesE pcE w v ps) (hl : ps.length ≤ 1000) (hf : Fits ps) :
    Calls Try.prog 46 #[v] w fun e w' => ∃ v', e = .returned v' ∧ RowE pcE w' w.heap.size 32 v' (joinB ps) ∧ Below w.heap.size w w' := by
  obtain ⟨ao, cap, rfl⟩ := hs.form
  have HS : Hid (SeesE pcE w (.slice ao ps.length cap) ps) := hs
  have HF : Hid (Fits ps) := hf
  have hli : (ps.length : Int) ≤ 1000 := by omega
  clear hs hf
  go_enter Try.func46, Try.ntmps46
  go_wp2
  go_loopw [3, 4] (fun s3 s4 wr => ∃ (i : Nat) (ax : Option Addr) (nx cx : Nat), i ≤ ps.length ∧ s3 = .slice ax nx cx ∧ s4 = .int .i64 (i : Int) ∧ Hid (RowE pcE wr w.heap.size 32 (.slice ax nx cx) (joinB (ps.take i)) ∧ Below w.heap.size w wr)) (fun _ s4 _ => ps.length - (intOf s4).toNat)
  case atStart => exact ⟨0, none, 0, 0, Nat.zero_le _, rfl, rfl, ⟨rowE_nil pcE w _ _, Below.refl _ _⟩⟩
  case round =>
    obtain ⟨i, ax, nx, cx, hi, rfl, rfl, HI⟩ := hrel
    have HNX : Hid (nx = (joinB (ps.take i)).length) := by
      obtain ⟨a', c', e⟩ := HI.out.1.sees.form
      injection e with e1 e2 e3
    by_cases hlt : i < ps.length
    · have hli2 : (i : Int) < (ps.length : Int) := by omega
      have hi0 : (0 : Int) ≤ (i : Int) := by omega
      obtain ⟨B, off, e, _, hB, hc⟩ := pc_cells (HS.out.below HI.out.2) (by omega)
      subst e
      obtain ⟨c0, c1, c2, c3⟩ := hc i hlt
      obtain ⟨p, hp⟩ : ∃ p, p = ps[i] := ⟨_, rfl⟩
      obtain ⟨J, hJ⟩ : ∃ J, J = joinB (ps.take i) := ⟨_, rfl⟩
      have HJ := join_step ps i hlt J hJ p hp
      have hfp : Fit p := by rw [hp]; exact HF.out _ (List.getElem_mem _)
      have hfJ : Fits J := by rw [hJ]; exact fits_join (fits_take HF.out i)
      have hlJ : J.length ≤ 1000 := by rw [hJ]; have := join_len (ps.take i); rw [List.length_take] at this; omega
      rw [← hp] at c0 c1 c2 c3
      rw [← hJ] at HI HNX
      clear hp hc hJ
      obtain ⟨po, pl, pg, pp⟩ := p
      obtain ⟨f0, f1, f2, f3, f4, f5, f6⟩ := hfp
      simp only at c0 c1 c2 c3 f0 f1 f2 f3 f4 f5 f6
      by_cases h0 : 0 < nx
      · obtain ⟨HJ0, HJ⟩ := HJ
        have hJ0 : 0 < J.length := by have := HNX.out; omega
        obtain ⟨g, cap2, e1, hg, hgl, hgf, hgc⟩ := rowE_form HI.out.1 hJ0
        injection e1 with e1 e2 e3
        subst e1 e3
        obtain ⟨m, hm⟩ : ∃ m, J.length = m + 1 := ⟨J.length - 1, by omega⟩
        have hml : m < J.length := by omega
        obtain ⟨q, hq⟩ : ∃ z, z = J[m] := ⟨_, rfl⟩
        have HT := HJ m hm q hq
        have hfq : Fit q := by rw [hq]; exact hfJ _ (List.getElem_mem _)
        have d0 := hgc m hml 0 (.int .i64 q.off) (by rw [hq]; rfl)
        have d1 := hgc m hml 1 (.int .i64 q.len) (by rw [hq]; rfl)
        have d2 := hgc m hml 2 (.int .i64 q.page) (by rw [hq]; rfl)
        have d3 := hgc m hml 3 (.int .i64 q.pos) (by rw [hq]; rfl)
        have HM : Hid (J.length = m + 1 ∧ q = J[m]) := ⟨hm, hq⟩
        have enx : nx = m + 1 := by have := HNX.out; omega
        subst enx
        have hmi : (m : Int) ≤ 1000 := by omega
        have hm0 : (0 : Int) ≤ (m : Int) := by omega
        clear hq hgc hm HJ HJ0 e2
        obtain ⟨qo, ql, qg, qp⟩ := q
        obtain ⟨k0, k1, k2, k3, k4, k5, k6⟩ := hfq
        simp only [show pcE.k = 4 from rfl, Nat.add_zero] at d0 d1 d2 d3 k0 k1 k2 k3 k4 k5 k6
        have HLJ : Hid (J.length ≤ 1000) := hlJ
        clear hlJ hJ0
        by_cases t1 : qo + ql = po
        · by_cases t2 : qg = pg
          · by_cases t3 : qp + ql = pp
            · have HC : Hid (joinB (ps.take (i + 1)) = J.set m ⟨qo, ql + pl, qg, qp⟩) := HT.1 (by simp only [touchB, decide_eq_true_eq]; exact ⟨t1, t2, t3⟩)
              clear HT
              subst t1 t2 t3
              go_wp2
              go_quiet (fail)
              obtain ⟨wq, hwq⟩ : ∃ z, z = wr.drewN nq := ⟨_, rfl⟩
              rw [← hwq]
              have HWQ : Hid (Below wr.heap.size wr wq) := by rw [hwq]; exact bel_drewN9 wr nq
              have qc0 : wq.cell? ⟨B, off + i * 4, none⟩ = some (.int .i64 (qo + ql)) := (HWQ.out.cell (by exact hB)).trans c0
              have qc1 : wq.cell? ⟨B, off + i * 4 + 1, none⟩ = some (.int .i64 pl) := (HWQ.out.cell (by exact hB)).trans c1
              have qc2 : wq.cell? ⟨B, off + i * 4 + 2, none⟩ = some (.int .i64 qg) := (HWQ.out.cell (by exact hB)).trans c2
              have qc3 : wq.cell? ⟨B, off + i * 4 + 3, none⟩ = some (.int .i64 (qp + ql)) := (HWQ.out.cell (by exact hB)).trans c3
              clear hwq
              have qd1 : wq.cell? ⟨g, m * 4 + 1, none⟩ = some (.int .i64 ql) := (HWQ.out.cell (by exact hgl)).trans d1
              have qf : ∀ j, wq.frozen? ⟨g, j, none⟩ = false := fun j => (HWQ.out.frozen (by exact hgl)).trans (hgf j)
              have qgl : g < wq.heap.size := Nat.lt_of_lt_of_le hgl HWQ.out.size
              have HEN : Hid (RowE pcE (wq.setCell ⟨g, m * 4 + 1, none⟩ (.int .i64 (ql + pl))) w.heap.size 32 (.slice (some ⟨g, 0, none⟩) (m + 1) cx) (J.set m ⟨qo, ql + pl, qg, qp⟩) ∧ Below w.heap.size w (wq.setCell ⟨g, m * 4 + 1, none⟩ (.int .i64 (ql + pl)))) := by
                refine ⟨rowE_put (HI.out.1.below HWQ.out) m hml 1 (by decide) _ _ ?_, (bel_tr HI.out.2 HWQ.out).setCell hg _⟩
                rw [← HM.out.2]; rfl
              clear c0 c1 c2 c3 d0 d1 d2 d3
              go_wp2
              go_region
              all_goals (
                go_wp2
                go_roundw
                case rel => exact ⟨i + 1, _, _, _, by omega, rfl, by go_num, ⟨by rw [HC.out]; exact HEN.out.1, HEN.out.2.drew⟩⟩
                case measure => simp [intOf]; omega)
            · have HC : Hid (joinB (ps.take (i + 1)) = J ++ [(⟨po, pl, pg, pp⟩ : Pc)]) := HT.2 (by simp only [touchB, decide_eq_false_iff_not]; exact fun h => t3 h.2.2)
              clear HT
              have b3 : (qp + ql == pp) = false := beq_eq_false_iff_ne.2 t3
              subst t1 t2
              go_wp2
              go_quiet (fail)
              obtain ⟨wq, hwq⟩ : ∃ z, z = wr.drewN nq := ⟨_, rfl⟩
              rw [← hwq]
              have HWQ : Hid (Below wr.heap.size wr wq) := by rw [hwq]; exact bel_drewN9 wr nq
              have qc0 : wq.cell? ⟨B, off + i * 4, none⟩ = some (.int .i64 (qo + ql)) := (HWQ.out.cell (by exact hB)).trans c0
              have qc1 : wq.cell? ⟨B, off + i * 4 + 1, none⟩ = some (.int .i64 pl) := (HWQ.out.cell (by exact hB)).trans c1
              have qc2 : wq.cell? ⟨B, off + i * 4 + 2, none⟩ = some (.int .i64 qg) := (HWQ.out.cell (by exact hB)).trans c2
              have qc3 : wq.cell? ⟨B, off + i * 4 + 3, none⟩ = some (.int .i64 pp) := (HWQ.out.cell (by exact hB)).trans c3
              clear hwq
              clear c0 c1 c2 c3 d0 d1 d2 d3
              have HS1 : Hid (SeesE pcE (wq.alloc (.cells #[.int .i64 (qo + ql), .int .i64 pl, .int .i64 qg, .int .i64 pp] 32)) (.slice (some ⟨wq.heap.size, 0, none⟩) 1 1) [(⟨qo + ql, pl, qg, pp⟩ : Pc)]) := seesE_one pcE wq 32 (⟨qo + ql, pl, qg, pp⟩ : Pc) _ rfl
              have HR1 : Hid (RowE pcE (wq.alloc (.cells #[.int .i64 (qo + ql), .int .i64 pl, .int .i64 qg, .int .i64 pp] 32)) w.heap.size 32 (.slice (some ⟨g, 0, none⟩) (m + 1) cx) J) := (HI.out.1.below HWQ.out).below (bel_newG _ _)
              have HN1 : Hid (J.length + [(⟨qo + ql, pl, qg, pp⟩ : Pc)].length ≤ maxLen ∧ (J.length + [(⟨qo + ql, pl, qg, pp⟩ : Pc)].length) * 32 ≤ 140737488355328 ∧ w.heap.size ≤ (wq.alloc (.cells #[.int .i64 (qo + ql), .int .i64 pl, .int .i64 qg, .int .i64 pp] 32)).heap.size) := by
                have h1 : J.length ≤ 1000 := HLJ.out
                have h2 := HI.out.2.size
                have h3 := HWQ.out.size
                exact ⟨by simp; unfold maxLen; omega, by simp; omega, by simp; omega⟩
              obtain ⟨n1, hn1⟩ : ∃ z, z = (J ++ [(⟨qo + ql, pl, qg, pp⟩ : Pc)]).length := ⟨_, rfl⟩
              have HQ1 : Hid (n1 = _) := hn1
              clear hn1
              go_wp2_with (at_builtin; refine wpList_appE (E := pcE) Try.underlying27 infoPc rfl rfl _ _ rfl w.heap.size _ J rfl HR1.out _ [(⟨qo + ql, pl, qg, pp⟩ : Pc)] rfl HS1.out HN1.out.1 HN1.out.2.1 HN1.out.2.2 ?_; intro v1 u1w k1 k2; have HK1 : Hid (RowE pcE u1w w.heap.size 32 _ (J ++ [(⟨qo + ql, pl, qg, pp⟩ : Pc)])) := k1; have HB1 : Hid (Below w.heap.size w u1w) := (row_kept HI.out.1 (bel_tr HWQ.out (bel_newG wq (.cells #[.int .i64 (qo + ql), .int .i64 pl, .int .i64 qg, .int .i64 pp] 32))) k2).2 HI.out.2 HI.out.2.size; obtain ⟨av1, cv1, hv1⟩ := k1.sees.form; rw [← HQ1.out] at hv1; subst hv1; clear k1 k2 HR1 HS1 HN1)
              go_wp2
              go_roundw
              case rel => exact ⟨i + 1, _, _, _, by omega, rfl, by go_num, ⟨by rw [HC.out]; exact HK1.out, HB1.out⟩⟩
              case measure => simp [intOf]; omega
          · have HC : Hid (joinB (ps.take (i + 1)) = J ++ [(⟨po, pl, pg, pp⟩ : Pc)]) := HT.2 (by simp only [touchB, decide_eq_false_iff_not]; exact fun h => t2 h.2.1)
            clear HT
            have b2 : (qg == pg) = false := beq_eq_false_iff_ne.2 t2
            subst t1
            go_wp2
            go_quiet (fail)
            obtain ⟨wq, hwq⟩ : ∃ z, z = wr.drewN nq := ⟨_, rfl⟩
            rw [← hwq]
            have HWQ : Hid (Below wr.heap.size wr wq) := by rw [hwq]; exact bel_drewN9 wr nq
            have qc0 : wq.cell? ⟨B, off + i * 4, none⟩ = some (.int .i64 (qo + ql)) := (HWQ.out.cell (by exact hB)).trans c0
            have qc1 : wq.cell? ⟨B, off + i * 4 + 1, none⟩ = some (.int .i64 pl) := (HWQ.out.cell (by exact hB)).trans c1
            have qc2 : wq.cell? ⟨B, off + i * 4 + 2, none⟩ = some (.int .i64 pg) := (HWQ.out.cell (by exact hB)).trans c2
            have qc3 : wq.cell? ⟨B, off + i * 4 + 3, none⟩ = some (.int .i64 pp) := (HWQ.out.cell (by exact hB)).trans c3
            clear hwq
            clear c0 c1 c2 c3 d0 d1 d2 d3
            have HS1 : Hid (SeesE pcE (wq.alloc (.cells #[.int .i64 (qo + ql), .int .i64 pl, .int .i64 pg, .int .i64 pp] 32)) (.slice (some ⟨wq.heap.size, 0, none⟩) 1 1) [(⟨qo + ql, pl, pg, pp⟩ : Pc)]) := seesE_one pcE wq 32 (⟨qo + ql, pl, pg, pp⟩ : Pc) _ rfl
            have HR1 : Hid (RowE pcE (wq.alloc (.cells #[.int .i64 (qo + ql), .int .i64 pl, .int .i64 pg, .int .i64 pp] 32)) w.heap.size 32 (.slice (some ⟨g, 0, none⟩) (m + 1) cx) J) := (HI.out.1.below HWQ.out).below (bel_newG _ _)
            have HN1 : Hid (J.length + [(⟨qo + ql, pl, pg, pp⟩ : Pc)].length ≤ maxLen ∧ (J.length + [(⟨qo + ql, pl, pg, pp⟩ : Pc)].length) * 32 ≤ 140737488355328 ∧ w.heap.size ≤ (wq.alloc (.cells #[.int .i64 (qo + ql), .int .i64 pl, .int .i64 pg, .int .i64 pp] 32)).heap.size) := by
              have h1 : J.length ≤ 1000 := HLJ.out
              have h2 := HI.out.2.size
              have h3 := HWQ.out.size
              exact ⟨by simp; unfold maxLen; omega, by simp; omega, by simp; omega⟩
            obtain ⟨n1, hn1⟩ : ∃ z, z = (J ++ [(⟨qo + ql, pl, pg, pp⟩ : Pc)]).length := ⟨_, rfl⟩
            have HQ1 : Hid (n1 = _) := hn1
            clear hn1
            go_wp2_with (at_builtin; refine wpList_appE (E := pcE) Try.underlying27 infoPc rfl rfl _ _ rfl w.heap.size _ J rfl HR1.out _ [(⟨qo + ql, pl, pg, pp⟩ : Pc)] rfl HS1.out HN1.out.1 HN1.out.2.1 HN1.out.2.2 ?_; intro v1 u1w k1 k2; have HK1 : Hid (RowE pcE u1w w.heap.size 32 _ (J ++ [(⟨qo + ql, pl, pg, pp⟩ : Pc)])) := k1; have HB1 : Hid (Below w.heap.size w u1w) := (row_kept HI.out.1 (bel_tr HWQ.out (bel_newG wq (.cells #[.int .i64 (qo + ql), .int .i64 pl, .int .i64 pg, .int .i64 pp] 32))) k2).2 HI.out.2 HI.out.2.size; obtain ⟨av1, cv1, hv1⟩ := k1.sees.form; rw [← HQ1.out] at hv1; subst hv1; clear k1 k2 HR1 HS1 HN1)
            go_wp2
            go_roundw
            case rel => exact ⟨i + 1, _, _, _, by omega, rfl, by go_num, ⟨by rw [HC.out]; exact HK1.out, HB1.out⟩⟩
            case measure => simp [intOf]; omega
        · have HC : Hid (joinB (ps.take (i + 1)) = J ++ [(⟨po, pl, pg, pp⟩ : Pc)]) := HT.2 (by simp only [touchB, decide_eq_false_iff_not]; exact fun h => t1 h.1)
          clear HT
          have b1 : (qo + ql == po) = false := beq_eq_false_iff_ne.2 t1
          go_wp2
          go_quiet (fail)
          obtain ⟨wq, hwq⟩ : ∃ z, z = wr.drewN nq := ⟨_, rfl⟩
          rw [← hwq]
          have HWQ : Hid (Below wr.heap.size wr wq) := by rw [hwq]; exact bel_drewN9 wr nq
          have qc0 : wq.cell? ⟨B, off + i * 4, none⟩ = some (.int .i64 po) := (HWQ.out.cell (by exact hB)).trans c0
          have qc1 : wq.cell? ⟨B, off + i * 4 + 1, none⟩ = some (.int .i64 pl) := (HWQ.out.cell (by exact hB)).trans c1
          have qc2 : wq.cell? ⟨B, off + i * 4 + 2, none⟩ = some (.int .i64 pg) := (HWQ.out.cell (by exact hB)).trans c2
          have qc3 : wq.cell? ⟨B, off + i * 4 + 3, none⟩ = some (.int .i64 pp) := (HWQ.out.cell (by exact hB)).trans c3
          clear hwq
          clear c0 c1 c2 c3 d0 d1 d2 d3
          have HS1 : Hid (SeesE pcE (wq.alloc (.cells #[.int .i64 po, .int .i64 pl, .int .i64 pg, .int .i64 pp] 32)) (.slice (some ⟨wq.heap.size, 0, none⟩) 1 1) [(⟨po, pl, pg, pp⟩ : Pc)]) := seesE_one pcE wq 32 (⟨po, pl, pg, pp⟩ : Pc) _ rfl
          have HR1 : Hid (RowE pcE (wq.alloc (.cells #[.int .i64 po, .int .i64 pl, .int .i64 pg, .int .i64 pp] 32)) w.heap.size 32 (.slice (some ⟨g, 0, none⟩) (m + 1) cx) J) := (HI.out.1.below HWQ.out).below (bel_newG _ _)
          have HN1 : Hid (J.length + [(⟨po, pl, pg, pp⟩ : Pc)].length ≤ maxLen ∧ (J.length + [(⟨po, pl, pg, pp⟩ : Pc)].length) * 32 ≤ 140737488355328 ∧ w.heap.size ≤ (wq.alloc (.cells #[.int .i64 po, .int .i64 pl, .int .i64 pg, .int .i64 pp] 32)).heap.size) := by
            have h1 : J.length ≤ 1000 := HLJ.out
            have h2 := HI.out.2.size
            have h3 := HWQ.out.size
            exact ⟨by simp; unfold maxLen; omega, by simp; omega, by simp; omega⟩
          obtain ⟨n1, hn1⟩ : ∃ z, z = (J ++ [(⟨po, pl, pg, pp⟩ : Pc)]).length := ⟨_, rfl⟩
          have HQ1 : Hid (n1 = _) := hn1
          clear hn1
          go_wp2_with (at_builtin; refine wpList_appE (E := pcE) Try.underlying27 infoPc rfl rfl _ _ rfl w.heap.size _ J rfl HR1.out _ [(⟨po, pl, pg, pp⟩ : Pc)] rfl HS1.out HN1.out.1 HN1.out.2.1 HN1.out.2.2 ?_; intro v1 u1w k1 k2; have HK1 : Hid (RowE pcE u1w w.heap.size 32 _ (J ++ [(⟨po, pl, pg, pp⟩ : Pc)])) := k1; have HB1 : Hid (Below w.heap.size w u1w) := (row_kept HI.out.1 (bel_tr HWQ.out (bel_newG wq (.cells #[.int .i64 po, .int .i64 pl, .int .i64 pg, .int .i64 pp] 32))) k2).2 HI.out.2 HI.out.2.size; obtain ⟨av1, cv1, hv1⟩ := k1.sees.form; rw [← HQ1.out] at hv1; subst hv1; clear k1 k2 HR1 HS1 HN1)
          go_wp2
          go_roundw
          case rel => exact ⟨i + 1, _, _, _, by omega, rfl, by go_num, ⟨by rw [HC.out]; exact HK1.out, HB1.out⟩⟩
          case measure => simp [intOf]; omega
      · have enx : nx = 0 := by omega
        subst enx
        have HC : Hid (joinB (ps.take (i + 1)) = J ++ [(⟨po, pl, pg, pp⟩ : Pc)]) := HJ.1 (by have := HNX.out; omega)
        have HLJ : Hid (J.length ≤ 1000) := hlJ
        clear HJ hlJ h0
        obtain ⟨wq, hwq⟩ : ∃ z, z = wr := ⟨_, rfl⟩
        have HWQ : Hid (Below wr.heap.size wr wq) := by rw [hwq]; exact Below.refl _ _
        have HS1 : Hid (SeesE pcE (wq.alloc (.cells #[.int .i64 po, .int .i64 pl, .int .i64 pg, .int .i64 pp] 32)) (.slice (some ⟨wq.heap.size, 0, none⟩) 1 1) [(⟨po, pl, pg, pp⟩ : Pc)]) := seesE_one pcE wq 32 (⟨po, pl, pg, pp⟩ : Pc) _ rfl
        have HR1 : Hid (RowE pcE (wq.alloc (.cells #[.int .i64 po, .int .i64 pl, .int .i64 pg, .int .i64 pp] 32)) w.heap.size 32 (.slice ax 0 cx) J) := (HI.out.1.below HWQ.out).below (bel_newG _ _)
        have HN1 : Hid (J.length + [(⟨po, pl, pg, pp⟩ : Pc)].length ≤ maxLen ∧ (J.length + [(⟨po, pl, pg, pp⟩ : Pc)].length) * 32 ≤ 140737488355328 ∧ w.heap.size ≤ (wq.alloc (.cells #[.int .i64 po, .int .i64 pl, .int .i64 pg, .int .i64 pp] 32)).heap.size) := by
          have h1 : J.length ≤ 1000 := HLJ.out
          have h2 := HI.out.2.size
          have h3 := HWQ.out.size
          exact ⟨by simp; unfold maxLen; omega, by simp; omega, by simp; omega⟩
        obtain ⟨n1, hn1⟩ : ∃ z, z = (J ++ [(⟨po, pl, pg, pp⟩ : Pc)]).length := ⟨_, rfl⟩
        have HQ1 : Hid (n1 = _) := hn1
        clear hn1
        subst hwq
        go_wp2_with (at_builtin; refine wpList_appE (E := pcE) Try.underlying27 infoPc rfl rfl _ _ rfl w.heap.size _ J rfl HR1.out _ [(⟨po, pl, pg, pp⟩ : Pc)] rfl HS1.out HN1.out.1 HN1.out.2.1 HN1.out.2.2 ?_; intro v1 u1w k1 k2; have HK1 : Hid (RowE pcE u1w w.heap.size 32 _ (J ++ [(⟨po, pl, pg, pp⟩ : Pc)])) := k1; have HB1 : Hid (Below w.heap.size w u1w) := (row_kept HI.out.1 (bel_tr HWQ.out (bel_newG wq (.cells #[.int .i64 po, .int .i64 pl, .int .i64 pg, .int .i64 pp] 32))) k2).2 HI.out.2 HI.out.2.size; obtain ⟨av1, cv1, hv1⟩ := k1.sees.form; rw [← HQ1.out] at hv1; subst hv1; clear k1 k2 HR1 HS1 HN1)
        go_wp2
        go_roundw
        case rel => exact ⟨i + 1, _, _, _, by omega, rfl, by go_num, ⟨by rw [HC.out]; exact HK1.out, HB1.out⟩⟩
        case measure => simp [intOf]; omega
    · have hli2 : ¬ (i : Int) < (ps.length : Int) := by omega
      have ei : i = ps.length := by omega
      subst ei
      have HE : Hid (RowE pcE wr w.heap.size 32 (.slice ax nx cx) (joinB ps) ∧ Below w.heap.size w wr) := by
        have := HI.out
        rw [List.take_length] at this
        exact this
      go_wp2
      go_ret
      exact ⟨_, rfl, HE.out⟩
end Go.Proofs.Ythdmclhccbjgoaa
