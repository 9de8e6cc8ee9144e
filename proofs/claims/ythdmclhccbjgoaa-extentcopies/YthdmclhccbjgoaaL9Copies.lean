/- dolmenlaw9.ExtentCopies. -/
import Derived.Test.YthdmclhccbjgoaaLPlay9
import Derived.Deep.RegionHeld3
namespace Go.Proofs.Ythdmclhccbjgoaa
open Go.RowKit Kit
set_option linter.unusedVariables false

noncomputable def playF (ps : List Pc) (ss : List St9) : List Pc := ss.foldl (fun ps s => stepB s ps) ps
theorem playF_snoc (ps : List Pc) (ss : List St9) (i : Nat) (hi : i < ss.length) : playF ps (ss.take (i + 1)) = stepB ss[i] (playF ps (ss.take i)) := by
  unfold playF
  rw [List.take_succ_eq_append_getElem hi, List.foldl_append, List.foldl_cons, List.foldl_nil]
set_option maxRecDepth 4000 in
set_option maxHeartbeats 16000000 in
theorem copies_any (v0 v1 : Value) (ss tt : List St9) (w : World) (hs : SeesE stE w v0 ss) (ht : SeesE stE w v1 tt) :
    Calls Try.prog 6 #[v0, v1] w fun e w' => e = .returned (.bool true) ∧ Below w.heap.size w w' := by
  obtain ⟨ao, cap, rfl⟩ := hs.form
  obtain ⟨n, hn⟩ : ∃ n, n = ss.length := ⟨_, rfl⟩
  obtain ⟨bo, bcap, rfl⟩ := ht.form
  obtain ⟨m, hm⟩ : ∃ m, m = tt.length := ⟨_, rfl⟩
  rw [← hn] at hs ⊢
  rw [← hm] at ht ⊢
  have HS : Hid (SeesE stE w (.slice ao n cap) ss) := hs
  have HN : Hid (n = ss.length) := hn
  have HT : Hid (SeesE stE w (.slice bo m bcap) tt) := ht
  have HTN : Hid (m = tt.length) := hm
  clear hs hn ht hm
  by_cases hbig : 40 < n
  · have hbi : (40 : Int) < (n : Int) := by omega
    go_enter Try.func6, Try.ntmps6
    go_wp2_with (go_at_call 8; refine (awake9_any _).mono ?_; rintro e w1 ⟨rfl, hb1⟩)
    go_ret
    exact ⟨rfl, hb1⟩
  by_cases hbig2 : 40 < m
  · have hbi : ¬ (40 : Int) < (n : Int) := by omega
    have hbj : (40 : Int) < (m : Int) := by omega
    go_enter Try.func6, Try.ntmps6
    go_wp2_with (go_at_call 8; refine (awake9_any _).mono ?_; rintro e w1 ⟨rfl, hb1⟩)
    go_ret
    exact ⟨rfl, hb1⟩
  have hbi : ¬ (40 : Int) < (n : Int) := by omega
  have hbj : ¬ (40 : Int) < (m : Int) := by omega
  have hmM : (m : Int) ≤ 40 := by omega
  have hnN : (n : Int) ≤ 40 := by omega
  go_enter Try.func6, Try.ntmps6
  go_wp2_with fail
  have HP0 : Hid (Both9 ((w.alloc (.cells #[.slice none 0 0] 59)).alloc (.cells #[.slice none 0 0] 29)) w.heap.size (w.heap.size + 1) (w.heap.size + 1) (.slice none 0 0) (.slice none 0 0) (playB (ss.take 0)) ∧ Below w.heap.size w ((w.alloc (.cells #[.slice none 0 0] 59)).alloc (.cells #[.slice none 0 0] 29))) := ⟨play_new w, bel_tr (bel_newG _ _) (bel_newG _ _)⟩
  go_loopw [8] (fun s wr => ∃ (i : Nat) (v u : Value), i ≤ n ∧ s = .int .i64 (i : Int) ∧ Hid (Both9 wr w.heap.size (w.heap.size + 1) (w.heap.size + 1) v u (playB (ss.take i)) ∧ Below w.heap.size w wr)) (fun s _ => n - (intOf s).toNat)
  case atStart => exact ⟨0, _, _, Nat.zero_le _, rfl, HP0.out⟩
  case round =>
    obtain ⟨i, v, u, hi, rfl, HI⟩ := hrel
    clear HP0
    by_cases hlt : i < n
    · have hii : (i : Int) < (n : Int) := by omega
      have hi0 : (0 : Int) ≤ (i : Int) := by omega
      have hil : i < ss.length := by have := HN.out; omega
      obtain ⟨b, off, e, hnn, hb, hc⟩ := st_cells (HS.out.below HI.out.2) (by omega)
      subst e
      obtain ⟨c0, c1, c2, c3, c4, c5, c6⟩ := hc i hil
      have HSN : Hid (playB (ss.take (i + 1)) = stepB ss[i] (playB (ss.take i))) := play_snoc ss i hil
      have HD : Hid (Calls Try.prog 10 #[.pointer (some ⟨w.heap.size, 0, none⟩), .pointer (some ⟨w.heap.size + 1, 0, none⟩), .agg (stE.c ss[i]).toArray] wr fun e w' => e = .returned (.bool true) ∧ ∃ v' u', Both9 w' w.heap.size (w.heap.size + 1) (w.heap.size + 1) v' u' (stepB ss[i] (playB (ss.take i))) ∧ Turn10 w.heap.size (w.heap.size + 1) v v' wr w') := by
        have hg := play_good (ss.take i)
        have hl : (ss.take i).length ≤ n := by rw [List.length_take]; omega
        exact does9_any _ _ _ ss[i] v u _ wr HI.out.1 hg.1 (by omega)
      obtain ⟨s, hs⟩ : ∃ s, s = ss[i] := ⟨_, rfl⟩
      rw [← hs] at c0 c1 c2 c3 c4 c5 c6 HSN HD
      clear hs hc hnn
      obtain ⟨sk, ⟨po, pl, pg, pp⟩, sa, sb⟩ := s
      simp only at c0 c1 c2 c3 c4 c5 c6
      go_wp2_with (go_at_call 10; refine HD.out.mono ?_; rintro e w2 ⟨rfl, v2, u2, hb2, ht2⟩; have HI2 : Hid (Both9 w2 w.heap.size (w.heap.size + 1) (w.heap.size + 1) v2 u2 (playB (ss.take (i + 1))) ∧ Below w.heap.size w w2) := ⟨by rw [HSN.out]; exact hb2, ht2.below HI.out.2 HI.out.2.size (Nat.le_refl _) (Nat.le_succ _) (fun k hk => by have := HI.out.1.em.row.block k hk; omega)⟩; clear hb2 ht2)
      go_roundw
      case rel => exact ⟨i + 1, _, _, by omega, by go_num, HI2.out⟩
      case measure => simp [intOf]; omega
    · have hin : ¬ (i : Int) < (n : Int) := by omega
      obtain ⟨ps, hps⟩ : ∃ z, z = playB (ss.take i) := ⟨_, rfl⟩
      have HG : Hid (Good9 ps ∧ ps.length ≤ 900) := by
        have hg := play_good (ss.take i)
        have hl : (ss.take i).length ≤ n := by rw [List.length_take]; omega
        rw [hps]
        exact ⟨hg.1, by omega⟩
      rw [← hps] at HI
      have HPL : Hid (ps.length ≤ 80) := by
        have hg := play_good (ss.take i)
        have hl : (ss.take i).length ≤ n := by rw [List.length_take]; omega
        rw [hps]
        show _ ≤ _
        omega
      clear hps
      obtain ⟨wo, rfl⟩ : ∃ z, z = wr := ⟨_, rfl⟩
      clear hbig hbig2
      go_wp2_with fail
      go_at_call 26
      refine (ecopy_any w.heap.size _ v ps _ HI.out.1.em (by have := HG.out.2; omega)).mono ?_
      rintro e w3 ⟨p2, v2, rfl, hp2, hm2, hb3⟩
      have H3 : Hid (EMap w3 p2 wo.heap.size v2 ps ∧ Below wo.heap.size wo w3) := ⟨hm2, hb3⟩
      have hqc := blk_below hb3 HI.out.1.rc
      have q3 : w3.cell? ⟨w.heap.size + 1, 0, none⟩ = some u := blk_cell hqc rfl
      have hql3 : w.heap.size + 1 < w3.heap.size := blk_lt hqc
      have HU3 : Hid (SeesE pcE w3 u ps) := HI.out.1.rs.below hb3
      have HO3 : Hid (RowE pcE (w3.alloc (.cells #[] 32)) w3.heap.size 32 (.slice (some ⟨w3.heap.size, 0, none⟩) 0 0) []) := rowE_empty pcE w3 32 w3.heap.size w3.heap.size rfl (Nat.le_refl _)
      have HL3 : Hid (([] : List Pc).length + ps.length ≤ maxLen ∧ (([] : List Pc).length + ps.length) * 32 ≤ 140737488355328) := by
        have := HG.out.2
        exact ⟨by simp; unfold maxLen; omega, by simp; omega⟩
      obtain ⟨au, cu, hu⟩ := HU3.out.form
      obtain ⟨nu, hnu⟩ : ∃ z, z = ps.length := ⟨_, rfl⟩
      rw [← hnu] at hu
      subst hu
      clear hm2 hb3 hqc hnu
      go_upto_region 15 with (at_builtin; refine wpList_appE (E := pcE) Try.underlying27 infoPc rfl rfl _ _ rfl w3.heap.size _ [] rfl HO3.out _ ps rfl (HU3.out.below (bel_newG _ _)) HL3.out.1 HL3.out.2 (bel_newG _ _).size ?_; intro v5 w5 k1 k2; obtain ⟨a5, c5, hv5⟩ := k1.sees.form; obtain ⟨n5, hn5⟩ : ∃ z, z = ([] ++ ps).length := ⟨_, rfl⟩; rw [← hn5] at hv5; clear hn5; subst hv5; have HK5 : Hid (RowE pcE w5 w3.heap.size 32 (.slice a5 n5 c5) ps ∧ Below w3.heap.size w3 w5) := ⟨k1, (row_kept HO3.out (Below.refl _ _) k2).2 (bel_newG _ _) (bel_newG _ _).size⟩; clear k1 k2)
      obtain ⟨w6, hw6⟩ : ∃ z, z = w5.alloc (.cells #[.slice a5 n5 c5] 29) := ⟨_, rfl⟩
      have HB6 : Hid (Both9 w6 p2 w5.heap.size wo.heap.size v2 (.slice a5 n5 c5) ps ∧ Below wo.heap.size wo w6 ∧ wo.heap.size ≤ w5.heap.size) := by
        have h5 := HK5.out.2.size
        have hp3 := blk_lt H3.out.1.cell
        have hv : ∀ k, v2.ownBlock = some k → k < w3.heap.size := fun k hk => row_lt H3.out.1.row hk
        have hbe : Below w5.heap.size w5 w6 := by rw [hw6]; exact bel_newG _ _
        refine ⟨⟨(H3.out.1.below HK5.out.2).below hbe, by rw [hw6]; exact (MapKept.heap_alloc w5 _).1, (HK5.out.1.below hbe).sees, by omega, fun e => by have := hv _ e; omega, fun _ e => by have := HK5.out.1.block _ e; omega, fun _ k hk e => by have := HK5.out.1.block _ hk; have := hv _ e; omega⟩, bel_tr H3.out.2 (bel_tr HK5.out.2 hbe), Nat.le_trans H3.out.2.size h5⟩
      rw [← hw6]
      have HP6 : Hid (Both9 w6 p2 w5.heap.size wo.heap.size v2 (.slice a5 n5 c5) (playF ps (tt.take 0))) := HB6.out.1
      clear hw6 q3 hql3
      go_wp2_with fail
      go_loopw [11] (fun s wr => ∃ (i : Nat) (v u : Value), i ≤ m ∧ s = .int .i64 (i : Int) ∧ Hid (Both9 wr p2 w5.heap.size wo.heap.size v u (playF ps (tt.take i)) ∧ Below wo.heap.size wo wr)) (fun s _ => m - (intOf s).toNat)
      case atStart => exact ⟨0, _, _, Nat.zero_le _, rfl, HP6.out, HB6.out.2.1⟩
      case round =>
        obtain ⟨j, v9, u9, hj, rfl, HJ⟩ := hrel
        clear HP6
        by_cases hlt : j < m
        · have hii : (j : Int) < (m : Int) := by omega
          have hi0 : (0 : Int) ≤ (j : Int) := by omega
          have hil : j < tt.length := by have := HTN.out; omega
          obtain ⟨b, off, e, hnn, hb, hc⟩ := st_cells ((HT.out.below HI.out.2).below HJ.out.2) (by omega)
          subst e
          obtain ⟨c0, c1, c2, c3, c4, c5, c6⟩ := hc j hil
          have HSN : Hid (playF ps (tt.take (j + 1)) = stepB tt[j] (playF ps (tt.take j))) := playF_snoc ps tt j hil
          have HD : Hid (Calls Try.prog 10 #[.pointer (some ⟨p2, 0, none⟩), .pointer (some ⟨w5.heap.size, 0, none⟩), .agg (stE.c tt[j]).toArray] wr fun e w' => e = .returned (.bool true) ∧ ∃ v' u', Both9 w' p2 w5.heap.size wo.heap.size v' u' (stepB tt[j] (playF ps (tt.take j))) ∧ Turn10 p2 w5.heap.size v9 v' wr w') := by
            have hg := fold_good (tt.take j) ps HG.out.1
            have hl : (tt.take j).length ≤ m := by rw [List.length_take]; omega
            have hps := HPL.out
            exact does9_any _ _ _ tt[j] v9 u9 _ wr HJ.out.1 hg.1 (by unfold playF; omega)
          obtain ⟨s, hs⟩ : ∃ s, s = tt[j] := ⟨_, rfl⟩
          rw [← hs] at c0 c1 c2 c3 c4 c5 c6 HSN HD
          clear hs hc hnn
          obtain ⟨sk, ⟨po, pl, pg, pp⟩, sa, sb⟩ := s
          simp only at c0 c1 c2 c3 c4 c5 c6
          go_wp2_with (go_at_call 10; refine HD.out.mono ?_; rintro e w7 ⟨rfl, v7, u7, hb7, ht7⟩; have HI2 : Hid (Both9 w7 p2 w5.heap.size wo.heap.size v7 u7 (playF ps (tt.take (j + 1))) ∧ Below wo.heap.size wo w7) := ⟨by rw [HSN.out]; exact hb7, ht7.below HJ.out.2 HJ.out.2.size hp2 HB6.out.2.2 (fun k hk => HJ.out.1.em.row.block k hk)⟩; clear hb7 ht7)
          go_roundw
          case rel => exact ⟨j + 1, _, _, by omega, by go_num, HI2.out⟩
          case measure => simp [intOf]; omega
        · have hin2 : ¬ (j : Int) < (m : Int) := by omega
          obtain ⟨qs, hqs⟩ : ∃ z, z = playF ps (tt.take j) := ⟨_, rfl⟩
          have HQ : Hid (qs.length ≤ 900) := by
            have hg := fold_good (tt.take j) ps HG.out.1
            have hl : (tt.take j).length ≤ m := by rw [List.length_take]; omega
            have hps := HPL.out
            rw [hqs]
            show _ ≤ _
            unfold playF
            omega
          rw [← hqs] at HJ
          clear hqs
          have HA : Hid (Both9 wr w.heap.size (w.heap.size + 1) (w.heap.size + 1) v (.slice au nu cu) ps) := HI.out.1.below HJ.out.2
          have q0 : wr.cell? ⟨w.heap.size + 1, 0, none⟩ = some (.slice au nu cu) := blk_cell HA.out.rc rfl
          have q1 : wr.cell? ⟨w5.heap.size, 0, none⟩ = some u9 := blk_cell HJ.out.1.rc rfl
          have hl0 : w.heap.size + 1 < wr.heap.size := blk_lt HA.out.rc
          have hl1 : w5.heap.size < wr.heap.size := blk_lt HJ.out.1.rc
          have HKQ : Hid (∀ {X : World}, Below wr.heap.size wr X → X.cell? ⟨w.heap.size + 1, 0, none⟩ = some (.slice au nu cu) ∧ X.cell? ⟨w5.heap.size, 0, none⟩ = some u9) := fun hb => ⟨(hb.cell (by exact hl0)).trans q0, (hb.cell (by exact hl1)).trans q1⟩
          have HPA : Hid (∀ X, Below wr.heap.size wr X → Calls Try.prog 14 #[.pointer (some ⟨w.heap.size, 0, none⟩)] X fun e w' => ∃ v', e = .returned v' ∧ RowE pcE w' X.heap.size 35 v' ps ∧ Below X.heap.size X w') := fun X hb => epieces_any w.heap.size _ v ps X (HA.out.em.below hb) (by have := HG.out.2; omega)
          have HPC : Hid (∀ X, Below wr.heap.size wr X → Calls Try.prog 14 #[.pointer (some ⟨p2, 0, none⟩)] X fun e w' => ∃ v', e = .returned v' ∧ RowE pcE w' X.heap.size 35 v' qs ∧ Below X.heap.size X w') := fun X hb => epieces_any p2 _ v9 qs X (HJ.out.1.em.below hb) (by have := HQ.out; omega)
          have hpl : ps.length ≤ 100000 := by have := HG.out.2; omega
          have hql : qs.length ≤ 100000 := by have := HQ.out; omega
          have HEND : Hid (Below w.heap.size w wr) := bel_tr HI.out.2 HJ.out.2
          clear q0 q1 hl0 hl1
          go_wp2_with fail
          go_region_held3 (fun X => X.cell? ⟨w.heap.size + 1, 0, none⟩ = some (.slice au nu cu) ∧ X.cell? ⟨w5.heap.size, 0, none⟩ = some u9) (first | exact HKQ.out (bel_drew wr) | exact HKQ.out hw4 | exact HKQ.out hw5 | exact HKQ.out hw6 | exact HKQ.out hw7 | exact HKQ.out hw8 | exact HKQ.out hw9)
            (first
              | (go_at_call 14; refine (HPC.out _ hw5).mono ?_; rintro e w6' ⟨v6, rfl, k6, b6⟩; have hw6 : Below wr.heap.size wr w6' := bel_tr hw5 b6)
              | (go_at_call 14; refine (epieces_nil _).mono ?_; rintro e w10 ⟨rfl, rfl⟩)
              | (go_at_call 14; refine (HPA.out _ (bel_drew wr)).mono ?_; rintro e w4 ⟨v4, rfl, k4, b4⟩; have hw4 : Below wr.heap.size wr w4 := bel_tr (bel_drew wr) b4)
              | (go_at_call 13; refine (lpieces_any _ u9 qs _ k6.sees (HJ.out.1.rs.below hw6) hql).mono ?_; rintro e w7 ⟨rfl, b7⟩; have hw7 : Below wr.heap.size wr w7 := bel_tr hw6 b7)
              | (go_at_call 13; refine (lpieces_any _ (.slice au nu cu) ps _ k4.sees (HA.out.rs.below hw4) hpl).mono ?_; rintro e w5' ⟨rfl, b5⟩; have hw5 : Below wr.heap.size wr w5' := bel_tr hw4 b5)
              | (go_at_call 25; refine (eput_nil 0 1 0 0 _).mono ?_; rintro e w8 ⟨rfl, b8⟩; have hw8 : Below wr.heap.size wr w8 := bel_tr hw7 b8)
              | (go_at_call 27; refine (code_num 12 _ (by omega) (by omega)).mono ?_; rintro e w10 ⟨rfl, rfl⟩)
              | (go_at_call 24; refine (ecut_nil 0 0 _).mono ?_; rintro e w10 ⟨rfl, rfl⟩)
              | (go_at_call 21; refine (eend_nil _).mono ?_; rintro e w10 ⟨rfl, rfl⟩)
              | (go_at_call 8; refine (awake9_any _).mono ?_; rintro e w9 ⟨rfl, b9⟩; have hw9 : Below wr.heap.size wr w9 := bel_tr hw8 b9)
              | fail)
          have HZ : Hid (Below w.heap.size w w9) := bel_tr HEND.out hw9
          clear hw4 hw5 hw6 hw7 hw8 hw9 k4 k6 b4 b5 b6 b7 b8 b9
          go_wp2_with fail
          go_ret
          exact ⟨rfl, HZ.out⟩
end Go.Proofs.Ythdmclhccbjgoaa
