/- dolmenlaw9.ExtentOrder. -/
import Derived.Test.YthdmclhccbjgoaaLPlay9
import Derived.Deep.RegionHeld3
import Derived.BigQuiet
import Derived.Deep.QuietTactic
namespace Go.Proofs.Ythdmclhccbjgoaa
open Go.RowKit Kit
set_option linter.unusedVariables false

theorem untouch {q p : Pc} (h : touchB q p = false) (h1 : q.off + q.len ≤ p.off) : (q.off + q.len == p.off) = false ∨ (q.off + q.len = p.off ∧ (q.page == p.page) = false) ∨ (q.off + q.len = p.off ∧ q.page = p.page ∧ (q.pos + q.len == p.pos) = false) := by
  unfold touchB at h
  rw [decide_eq_false_iff_not] at h
  by_cases e1 : q.off + q.len = p.off
  · by_cases e2 : q.page = p.page
    · right; right
      exact ⟨e1, e2, beq_eq_false_iff_ne.2 fun e3 => h ⟨e1, e2, e3⟩⟩
    · right; left
      exact ⟨e1, beq_eq_false_iff_ne.2 e2⟩
  · left
    exact beq_eq_false_iff_ne.2 e1
set_option maxRecDepth 4000 in
set_option maxHeartbeats 16000000 in
theorem order_any (v0 : Value) (ss : List St9) (w : World) (hs : SeesE stE w v0 ss) :
    Calls Try.prog 5 #[v0] w fun e w' => e = .returned (.bool true) ∧ Below w.heap.size w w' := by
  obtain ⟨ao, cap, rfl⟩ := hs.form
  obtain ⟨n, hn⟩ : ∃ n, n = ss.length := ⟨_, rfl⟩
  rw [← hn] at hs ⊢
  have HS : Hid (SeesE stE w (.slice ao n cap) ss) := hs
  have HN : Hid (n = ss.length) := hn
  clear hs hn
  by_cases hbig : 60 < n
  · have hbi : (60 : Int) < (n : Int) := by omega
    go_enter Try.func5, Try.ntmps5
    go_wp2_with (go_at_call 8; refine (awake9_any _).mono ?_; rintro e w1 ⟨rfl, hb1⟩)
    go_ret
    exact ⟨rfl, hb1⟩
  have hnN : (n : Int) ≤ 60 := by omega
  go_enter Try.func5, Try.ntmps5
  go_wp2_with (go_at_call 9; refine (enew_any _).mono ?_; rintro e w1 ⟨rfl, rfl⟩)
  have HP0 : Hid (Both9 ((w.alloc (.cells #[.slice none 0 0] 59)).alloc (.cells #[.slice none 0 0] 29)) w.heap.size (w.heap.size + 1) (w.heap.size + 1) (.slice none 0 0) (.slice none 0 0) (playB (ss.take 0)) ∧ Below w.heap.size w ((w.alloc (.cells #[.slice none 0 0] 59)).alloc (.cells #[.slice none 0 0] 29))) := ⟨play_new w, bel_tr (bel_newG _ _) (bel_newG _ _)⟩
  go_loopw [5] (fun s wr => ∃ (i : Nat) (v u : Value), i ≤ n ∧ s = .int .i64 (i : Int) ∧ Hid (Both9 wr w.heap.size (w.heap.size + 1) (w.heap.size + 1) v u (playB (ss.take i)) ∧ Below w.heap.size w wr)) (fun s _ => n - (intOf s).toNat)
  case atStart => exact ⟨0, _, _, Nat.zero_le _, rfl, HP0.out⟩
  case round =>
    obtain ⟨i, v, u, hi, rfl, HI⟩ := hrel
    clear HP0
    by_cases hlt : i < n
    · have hii : (i : Int) < (n : Int) := by omega
      have hi0 : (0 : Int) ≤ (i : Int) := by omega
      have hil : i < ss.length := by have := HN.out; omega
      obtain ⟨b, off, e, hnn, hb, hc⟩ := st_cells (HS.out.below HI.out.2) (by omega)
      subst e
      obtain ⟨c0, c1, c2, c3, c4, c5, c6⟩ := hc i hil
      have HSN : Hid (playB (ss.take (i + 1)) = stepB ss[i] (playB (ss.take i))) := play_snoc ss i hil
      have HD : Hid (Calls Try.prog 10 #[.pointer (some ⟨w.heap.size, 0, none⟩), .pointer (some ⟨w.heap.size + 1, 0, none⟩), .agg (stE.c ss[i]).toArray] wr fun e w' => e = .returned (.bool true) ∧ ∃ v' u', Both9 w' w.heap.size (w.heap.size + 1) (w.heap.size + 1) v' u' (stepB ss[i] (playB (ss.take i))) ∧ Turn10 w.heap.size (w.heap.size + 1) v v' wr w') := by
        have hg := play_good (ss.take i)
        have hl : (ss.take i).length ≤ n := by rw [List.length_take]; omega
        exact does9_any _ _ _ ss[i] v u _ wr HI.out.1 hg.1 (by omega)
      obtain ⟨s, hs⟩ : ∃ s, s = ss[i] := ⟨_, rfl⟩
      rw [← hs] at c0 c1 c2 c3 c4 c5 c6 HSN HD
      clear hs hc hnn
      obtain ⟨sk, ⟨po, pl, pg, pp⟩, sa, sb⟩ := s
      simp only at c0 c1 c2 c3 c4 c5 c6
      go_wp2_with (go_at_call 10; refine HD.out.mono ?_; rintro e w2 ⟨rfl, v2, u2, hb2, ht2⟩; have HI2 : Hid (Both9 w2 w.heap.size (w.heap.size + 1) (w.heap.size + 1) v2 u2 (playB (ss.take (i + 1))) ∧ Below w.heap.size w w2) := ⟨by rw [HSN.out]; exact hb2, ht2.below HI.out.2 HI.out.2.size (Nat.le_refl _) (Nat.le_succ _) (fun k hk => by have := HI.out.1.em.row.block k hk; omega)⟩; clear hb2 ht2)
      go_roundw
      case rel => exact ⟨i + 1, _, _, by omega, by go_num, HI2.out⟩
      case measure => simp [intOf]; omega
    · have hin : ¬ (i : Int) < (n : Int) := by omega
      obtain ⟨ps, hps⟩ : ∃ z, z = playB (ss.take i) := ⟨_, rfl⟩
      have HG : Hid (Good9 ps ∧ ps.length ≤ 900) := by
        have hg := play_good (ss.take i)
        have hl : (ss.take i).length ≤ n := by rw [List.length_take]; omega
        rw [hps]
        exact ⟨hg.1, by omega⟩
      rw [← hps] at HI
      clear hps
      go_wp2_with fail
      go_at_call 14
      refine (epieces_any w.heap.size _ _ _ _ HI.out.1.em (by have := HG.out.2; omega)).mono ?_
      rintro e w3 ⟨v3, rfl, k1, k2⟩
      obtain ⟨a3, c3, hv3⟩ := k1.sees.form
      obtain ⟨m, hm⟩ : ∃ m, m = ps.length := ⟨_, rfl⟩
      rw [← hm] at hv3
      subst hv3
      have HM : Hid (m = ps.length ∧ SeesE pcE w3 (.slice a3 m c3) ps ∧ Both9 w3 w.heap.size (w.heap.size + 1) (w.heap.size + 1) v u ps ∧ Below w.heap.size w w3) := ⟨hm, by have := k1.sees; exact this, HI.out.1.below k2, bel_tr HI.out.2 k2⟩
      have hm900 : (m : Int) ≤ 900 := by have := HG.out.2; omega
      clear k1 k2 hm HI
      go_wp2_with fail
      go_loopw [7] (fun s7 wr => ∃ k : Nat, k ≤ m ∧ s7 = .int .i64 (k : Int) ∧ Hid (Below w3.heap.size w3 wr)) (fun s7 _ => m - (intOf s7).toNat)
      case atStart => exact ⟨0, Nat.zero_le _, rfl, Below.refl _ _⟩
      case round =>
        obtain ⟨k, hk, rfl, HK⟩ := hrel
        by_cases hkm : k < m
        · have hki : (k : Int) < (m : Int) := by omega
          have hk0 : (0 : Int) ≤ (k : Int) := by omega
          have hkl : k < ps.length := by have := HM.out.1; omega
          obtain ⟨b, off, e, hnn, hb, hc⟩ := pc_cells (HM.out.2.1.below HK.out) (by omega)
          subst e
          obtain ⟨c0, c1, c2, c4⟩ := hc k hkl
          have hfp := HG.out.1.fits _ (List.getElem_mem hkl)
          obtain ⟨x, hx⟩ : ∃ x, x = ps[k] := ⟨_, rfl⟩
          have HX : Hid (x = ps[k]) := hx
          rw [← hx] at c0 c1 c2 c4 hfp
          clear hx hnn
          by_cases hz : k = 0
          · subst hz
            obtain ⟨po, pl, pg, pp⟩ := x
            obtain ⟨f0, f1, f2, f3, f4, f5, f6⟩ := hfp
            simp only at c0 c1 c2 c4 f0 f1 f2 f3 f4 f5 f6
            clear hc
            simp only [Nat.zero_mul, Nat.add_zero] at c0 c1 c2 c4
            go_wp2_with fail
            go_roundw
            case rel => exact ⟨1, by omega, by go_num, HK.out⟩
            case measure => simp [intOf]; omega
          · have hk1 : (0 : Int) < (k : Int) := by omega
            have hkm1 : (k : Int) - 1 < (m : Int) := by omega
            have hk10 : (0 : Int) ≤ (k : Int) - 1 := by omega
            have htn : ((k : Int) - 1).toNat = k - 1 := by omega
            obtain ⟨d0, d1, d2, d4⟩ := hc (k - 1) (by omega)
            have hfq := HG.out.1.fits _ (List.getElem_mem (l := ps) (n := k - 1) (by omega))
            have hle := rise_le HG.out.1.can.1 (i := k - 1) (j := k) (by omega) hkl
            have hun := apart_at HG.out.1.can.2 (k - 1) (by omega)
            have hk2 : k - 1 + 1 = k := by omega
            simp only [hk2] at hun
            obtain ⟨y, hy⟩ : ∃ y, y = ps[k - 1]'(by omega) := ⟨_, rfl⟩
            rw [← hy] at d0 d1 d2 d4 hfq hle hun
            rw [← HX.out] at hle hun
            have hut := untouch hun hle
            clear hy hc hun hk2 hz
            obtain ⟨po, pl, pg, pp⟩ := x
            obtain ⟨qo, ql, qg, qp⟩ := y
            obtain ⟨f0, f1, f2, f3, f4, f5, f6⟩ := hfp
            obtain ⟨g0, g1, g2, g3, g4, g5, g6⟩ := hfq
            simp only at c0 c1 c2 c4 d0 d1 d2 d4 f0 f1 f2 f3 f4 f5 f6 g0 g1 g2 g3 g4 g5 g6 hle hut
            obtain ⟨W1, hW1⟩ : ∃ z, z = wr.alloc (.cells #[.int .i64 qo, .int .i64 ql, .int .i64 qg, .int .i64 qp] 35) := ⟨_, rfl⟩
            have hh : W1.heap[wr.heap.size]? = some (.cells #[.int .i64 qo, .int .i64 ql, .int .i64 qg, .int .i64 qp] 35) := by rw [hW1]; exact (MapKept.heap_alloc wr _).1
            have hbl : Below wr.heap.size wr W1 := by rw [hW1]; exact bel_newG _ _
            have HW1 : Hid (Below w3.heap.size w3 W1) := bel_tr HK.out hbl
            have x0 : W1.cell? ⟨wr.heap.size, 0, none⟩ = some (.int .i64 qo) := blk_cell hh rfl
            have x1 : W1.cell? ⟨wr.heap.size, 1, none⟩ = some (.int .i64 ql) := blk_cell hh rfl
            have x2 : W1.cell? ⟨wr.heap.size, 2, none⟩ = some (.int .i64 qg) := blk_cell hh rfl
            have x4 : W1.cell? ⟨wr.heap.size, 3, none⟩ = some (.int .i64 qp) := blk_cell hh rfl
            have y0 : W1.cell? ⟨b, off + k * 4, none⟩ = some (.int .i64 po) := (hbl.cell (by exact hb)).trans c0
            have y1 : W1.cell? ⟨b, off + k * 4 + 1, none⟩ = some (.int .i64 pl) := (hbl.cell (by exact hb)).trans c1
            have y2 : W1.cell? ⟨b, off + k * 4 + 2, none⟩ = some (.int .i64 pg) := (hbl.cell (by exact hb)).trans c2
            have y4 : W1.cell? ⟨b, off + k * 4 + 3, none⟩ = some (.int .i64 pp) := (hbl.cell (by exact hb)).trans c4
            have hd0 : decide (po < qo + ql) = false := by rw [decide_eq_false_iff_not]; omega
            clear hh hbl
            rcases hut with e1 | ⟨e1, e2⟩ | ⟨e1, e2, e3⟩
            · go_wp2_with fail
              rw [← hW1]
              go_quiet (fail)
              obtain ⟨wq, hwq⟩ : ∃ z, z = W1.drewN nq := ⟨_, rfl⟩
              rw [← hwq]
              have HWQ : Hid (Below w3.heap.size w3 wq) := by rw [hwq]; exact bel_tr HW1.out (bel_drewN9 _ _)
              clear hwq
              go_wp2_with fail
              go_roundw
              case rel => exact ⟨k + 1, by omega, by go_num, HWQ.out⟩
              case measure => simp [intOf]; omega
            · subst e1
              go_wp2_with fail
              rw [← hW1]
              go_quiet (fail)
              obtain ⟨wq, hwq⟩ : ∃ z, z = W1.drewN nq := ⟨_, rfl⟩
              rw [← hwq]
              have HWQ : Hid (Below w3.heap.size w3 wq) := by rw [hwq]; exact bel_tr HW1.out (bel_drewN9 _ _)
              clear hwq
              go_wp2_with fail
              go_roundw
              case rel => exact ⟨k + 1, by omega, by go_num, HWQ.out⟩
              case measure => simp [intOf]; omega
            · subst e1 e2
              go_wp2_with fail
              rw [← hW1]
              go_quiet (fail)
              obtain ⟨wq, hwq⟩ : ∃ z, z = W1.drewN nq := ⟨_, rfl⟩
              rw [← hwq]
              have HWQ : Hid (Below w3.heap.size w3 wq) := by rw [hwq]; exact bel_tr HW1.out (bel_drewN9 _ _)
              clear hwq
              go_wp2_with fail
              go_roundw
              case rel => exact ⟨k + 1, by omega, by go_num, HWQ.out⟩
              case measure => simp [intOf]; omega
        · have hki : ¬ (k : Int) < (m : Int) := by omega
          have HBr : Hid (Both9 wr w.heap.size (w.heap.size + 1) (w.heap.size + 1) v u ps ∧ Below w.heap.size w wr) := ⟨HM.out.2.2.1.below HK.out, bel_tr HM.out.2.2.2 HK.out⟩
          have q0 : wr.cell? ⟨w.heap.size + 1, 0, none⟩ = some u := blk_cell HBr.out.1.rc rfl
          have hql : w.heap.size + 1 < wr.heap.size := blk_lt HBr.out.1.rc
          have KQ : ∀ {X : World}, Below wr.heap.size wr X → X.cell? ⟨w.heap.size + 1, 0, none⟩ = some u := fun hb => (hb.cell (by exact hql)).trans q0
          have HKQ : Hid (∀ {X : World}, Below wr.heap.size wr X → X.cell? ⟨w.heap.size + 1, 0, none⟩ = some u) := KQ
          have HRG : Hid (∀ X, Below wr.heap.size wr X → Calls Try.prog 16 #[.pointer (some ⟨w.heap.size, 0, none⟩), .int .i64 0, .int .i64 1099511627776] X fun e w' => ∃ v', e = .returned v' ∧ RowE pcE w' X.heap.size 35 v' ps ∧ Below X.heap.size X w') := fun X hb => by
            have := erange_any w.heap.size _ 0 1099511627776 v ps X (HBr.out.1.em.below hb) HG.out.1.can.1 HG.out.1.fits (by have := HG.out.2; omega)
            rw [range_all HG.out.1.fits (by omega)] at this
            exact this
          have HRN : Hid (∀ X, Below wr.heap.size wr X → Calls Try.prog 16 #[.pointer (some ⟨w.heap.size, 0, none⟩), .int .i64 5, .int .i64 5] X fun e w' => e = .returned (.slice none 0 0) ∧ Below X.heap.size X w') := fun X hb => erange_none w.heap.size _ 5 5 v ps X (HBr.out.1.em.below hb) (Int.le_refl _)
          have hpl : ps.length ≤ 100000 := by have := HG.out.2; omega
          clear KQ HM HK
          go_wp2_with fail
          go_region_held3 (fun X => X.cell? ⟨w.heap.size + 1, 0, none⟩ = some u) (first | exact HKQ.out (bel_drew wr) | exact HKQ.out hw4 | exact HKQ.out hw5 | exact HKQ.out hw6 | exact HKQ.out hw7)
            (first
              | (go_at_call 16; refine (HRN.out _ hw5).mono ?_; rintro e w6 ⟨rfl, hb6⟩; have hw6 : Below wr.heap.size wr w6 := bel_tr hw5 hb6)
              | (go_at_call 16; refine (HRG.out _ (bel_drew wr)).mono ?_; rintro e w4 ⟨v4, rfl, k1, k2⟩; have hw4 : Below wr.heap.size wr w4 := bel_tr (bel_drew wr) k2)
              | (go_at_call 13; refine (lpieces_any _ u ps _ k1.sees (HBr.out.1.rs.below hw4) hpl).mono ?_; rintro e w5 ⟨rfl, hb5⟩; have hw5 : Below wr.heap.size wr w5 := bel_tr hw4 hb5)
              | (go_at_call 8; refine (awake9_any _).mono ?_; rintro e w7 ⟨rfl, hb7⟩; have hw7 : Below wr.heap.size wr w7 := bel_tr hw6 hb7)
              | fail)
          have HZ : Hid (Below w.heap.size w w7) := bel_tr HBr.out.2 hw7
          clear hw4 hw5 hw6 hw7 k1 k2 hb5 hb6 hb7
          go_wp2_with fail
          go_ret
          exact ⟨rfl, HZ.out⟩
end Go.Proofs.Ythdmclhccbjgoaa
