/- dolmenlaw9.ExtentRanges. -/
import Derived.Test.YthdmclhccbjgoaaLPlay9
import Derived.Deep.RegionHeld3
import Derived.BigQuiet
import Derived.Deep.QuietTactic
namespace Go.Proofs.Ythdmclhccbjgoaa
open Go.RowKit Kit
set_option linter.unusedVariables false

theorem sum_bound (l : List Pc) (h : ∀ x ∈ l, 0 ≤ x.len ∧ x.len ≤ 2147483648) : 0 ≤ (l.map (·.len)).sum ∧ (l.map (·.len)).sum ≤ 2147483648 * l.length := by
  induction l with
  | nil => simp
  | cons x l ih =>
    have h1 := h x (List.mem_cons_self ..)
    have h2 := ih fun y hy => h y (List.mem_cons_of_mem _ hy)
    rw [List.map_cons, List.sum_cons, List.length_cons]
    have : (2147483648 : Int) * ((l.length + 1 : Nat) : Int) = 2147483648 * l.length + 2147483648 := by rw [Int.natCast_add]; omega
    omega
set_option maxRecDepth 4000 in
set_option maxHeartbeats 4000000 in
theorem sum9_any (v : Value) (ps : List Pc) (w : World) (hs : SeesE pcE w v ps) (hl : ps.length ≤ 1000) (hf : ∀ x ∈ ps, 0 ≤ x.len ∧ x.len ≤ 2147483648) :
    Calls Try.prog 28 #[v] w fun e w' => e = .returned (.int .i64 (ps.map (·.len)).sum) ∧ w' = w := by
  obtain ⟨ao, cap, rfl⟩ := hs.form
  obtain ⟨n, hn⟩ : ∃ n, n = ps.length := ⟨_, rfl⟩
  rw [← hn] at hs ⊢
  have HS : Hid (SeesE pcE w (.slice ao n cap) ps) := hs
  have HN : Hid (n = ps.length ∧ ∀ x ∈ ps, 0 ≤ x.len ∧ x.len ≤ 2147483648) := ⟨hn, hf⟩
  have hnl : (n : Int) ≤ 1000 := by omega
  clear hs hn hf
  go_enter Try.func28, Try.ntmps28
  go_wp2
  go_loop [3, 4] (fun s2 s3 => ∃ i : Nat, i ≤ n ∧ s2 = .int .i64 ((ps.take i).map (·.len)).sum ∧ s3 = .int .i64 (i : Int)) (fun _ s3 => n - (intOf s3).toNat)
  case atStart => exact ⟨0, Nat.zero_le _, rfl, rfl⟩
  case round =>
    obtain ⟨i, hi, rfl, rfl⟩ := hrel
    by_cases hlt : i < n
    · have hii : (i : Int) < (n : Int) := by omega
      have hi0 : (0 : Int) ≤ (i : Int) := by omega
      have hil : i < ps.length := by have := HN.out.1; omega
      obtain ⟨b, off, e, hnn, hb, hc⟩ := pc_cells HS.out (by omega)
      subst e
      obtain ⟨c0, c1, c2, c3⟩ := hc i hil
      have hsum := sum_bound (ps.take i) fun x hx => HN.out.2 x (List.mem_of_mem_take hx)
      have hlen : (ps.take i).length ≤ 1000 := by rw [List.length_take]; omega
      have hx := HN.out.2 _ (List.getElem_mem hil)
      have HSN : Hid (((ps.take (i + 1)).map (·.len)).sum = ((ps.take i).map (·.len)).sum + ps[i].len) := by
        show _ = _
        rw [List.take_succ_eq_append_getElem hil, List.map_append, List.sum_append]
        simp
      obtain ⟨x, hxe⟩ : ∃ x, x = ps[i] := ⟨_, rfl⟩
      rw [← hxe] at c0 c1 c2 c3 hx HSN
      clear hxe hc hnn
      obtain ⟨po, pl, pg, pp⟩ := x
      simp only at c0 c1 c2 c3 hx HSN
      obtain ⟨S, hS⟩ : ∃ z, z = ((ps.take i).map (·.len)).sum := ⟨_, rfl⟩
      rw [← hS] at hsum HSN ⊢
      have hSb : S ≤ 2147483648000 := by omega
      obtain ⟨hS0, _⟩ := hsum
      obtain ⟨hx0, hx1⟩ := hx
      clear hS
      go_wp2
      go_round
      case rel => exact ⟨i + 1, by omega, by rw [HSN.out], by go_num⟩
      case measure => simp [intOf]; omega
    · have hii : ¬ (i : Int) < (n : Int) := by omega
      have HE : Hid ((ps.take i).map (·.len) = ps.map (·.len)) := by show _ = _; rw [List.take_of_length_le (by have := HN.out.1; omega)]
      obtain ⟨S, hS⟩ : ∃ z, z = ((ps.take i).map (·.len)).sum := ⟨_, rfl⟩
      rw [← hS]
      have HS2 : Hid (S = _) := hS
      clear hS
      go_wp2
      go_ret
      exact ⟨by rw [← HE.out, ← HS2.out]; rfl, rfl⟩
theorem rng_mem {ps : List Pc} (hr : Rise ps) {a b : Int} {y : Pc} (hy : y ∈ rangeB ps a b) : a ≤ y.off ∧ y.off + y.len ≤ b ∧ 1 ≤ y.len ∧ ∃ p ∈ ps, findB ps y.off = some p ∧ p.page = y.page ∧ p.pos + y.off - p.off = y.pos := by
  rw [rangeB_rng] at hy
  obtain ⟨p, hp, hy⟩ := List.mem_flatMap.1 hy
  unfold rng1 at hy
  split at hy
  · rename_i hlt
    rw [List.mem_singleton] at hy
    subst hy
    simp only [Pc.sub]
    refine ⟨by omega, by omega, by omega, p, hp, ?_, rfl, rfl⟩
    obtain ⟨i, hi, rfl⟩ := List.mem_iff_getElem.1 hp
    refine find_at hi (fun j hj hji => ?_) ?_
    · have h1 := rise_le hr hji hi
      unfold hasB
      rw [decide_eq_false_iff_not]
      omega
    · unfold hasB
      rw [decide_eq_true_eq]
      omega
  · cases hy
def len1 (a b : Int) (p : Pc) : Int := if max p.off a < min (p.off + p.len) b then min (p.off + p.len) b - max p.off a else 0
theorem rng_sum (ps : List Pc) (a b : Int) : ((rangeB ps a b).map (·.len)).sum = (ps.map (len1 a b)).sum := by
  induction ps with
  | nil => rfl
  | cons x l ih =>
    show ((rng1 a b x ++ rangeB l a b).map (·.len)).sum = _
    rw [List.map_append, List.sum_append, ih, List.map_cons, List.sum_cons]
    congr 1
    unfold rng1 len1
    split <;> simp [Pc.sub]
theorem sum_split (ps : List Pc) {a b c : Int} (hab : a ≤ b) (hbc : b ≤ c) : (ps.map (len1 a b)).sum + (ps.map (len1 b c)).sum = (ps.map (len1 a c)).sum := by
  induction ps with
  | nil => rfl
  | cons x l ih =>
    simp only [List.map_cons, List.sum_cons]
    have : len1 a b x + len1 b c x = len1 a c x := by
      unfold len1
      split <;> split <;> split <;> omega
    omega
set_option maxRecDepth 4000 in
set_option maxHeartbeats 16000000 in
theorem ranges_any (v0 : Value) (ss : List St9) (w : World) (hs : SeesE stE w v0 ss) (a b c : Int) :
    Calls Try.prog 7 #[v0, .int .i64 a, .int .i64 b, .int .i64 c] w fun e w' => e = .returned (.bool true) ∧ Below w.heap.size w w' := by
  obtain ⟨ao, cap, rfl⟩ := hs.form
  obtain ⟨n, hn⟩ : ∃ n, n = ss.length := ⟨_, rfl⟩
  rw [← hn] at hs ⊢
  have HS : Hid (SeesE stE w (.slice ao n cap) ss) := hs
  have HN : Hid (n = ss.length) := hn
  clear hs hn
  by_cases hbig : 50 < n
  · have hbi : (50 : Int) < (n : Int) := by omega
    go_enter Try.func7, Try.ntmps7
    go_wp2_with (go_at_call 8; refine (awake9_any _).mono ?_; rintro e w1 ⟨rfl, hb1⟩)
    go_ret
    exact ⟨rfl, hb1⟩
  by_cases ha0 : a < 0
  · have hbi : ¬ (50 : Int) < (n : Int) := by omega
    go_enter Try.func7, Try.ntmps7
    go_wp2_with (go_at_call 8; refine (awake9_any _).mono ?_; rintro e w1 ⟨rfl, hb1⟩)
    go_ret
    exact ⟨rfl, hb1⟩
  by_cases hba : b < a
  · have hbi : ¬ (50 : Int) < (n : Int) := by omega
    go_enter Try.func7, Try.ntmps7
    go_wp2_with (go_at_call 8; refine (awake9_any _).mono ?_; rintro e w1 ⟨rfl, hb1⟩)
    go_ret
    exact ⟨rfl, hb1⟩
  by_cases hcb : c < b
  · have hbi : ¬ (50 : Int) < (n : Int) := by omega
    go_enter Try.func7, Try.ntmps7
    go_wp2_with (go_at_call 8; refine (awake9_any _).mono ?_; rintro e w1 ⟨rfl, hb1⟩)
    go_ret
    exact ⟨rfl, hb1⟩
  by_cases hcm : 8589934592 < c
  · have hbi : ¬ (50 : Int) < (n : Int) := by omega
    go_enter Try.func7, Try.ntmps7
    go_wp2_with (go_at_call 8; refine (awake9_any _).mono ?_; rintro e w1 ⟨rfl, hb1⟩)
    go_ret
    exact ⟨rfl, hb1⟩
  have hbi : ¬ (50 : Int) < (n : Int) := by omega
  have hnN : (n : Int) ≤ 50 := by omega
  go_enter Try.func7, Try.ntmps7
  go_wp2_with (go_at_call 9; refine (enew_any _).mono ?_; rintro e w1 ⟨rfl, rfl⟩)
  have HP0 : Hid (Both9 ((w.alloc (.cells #[.slice none 0 0] 59)).alloc (.cells #[.slice none 0 0] 29)) w.heap.size (w.heap.size + 1) (w.heap.size + 1) (.slice none 0 0) (.slice none 0 0) (playB (ss.take 0)) ∧ Below w.heap.size w ((w.alloc (.cells #[.slice none 0 0] 59)).alloc (.cells #[.slice none 0 0] 29))) := ⟨play_new w, bel_tr (bel_newG _ _) (bel_newG _ _)⟩
  go_loopw [11] (fun s wr => ∃ (i : Nat) (v u : Value), i ≤ n ∧ s = .int .i64 (i : Int) ∧ Hid (Both9 wr w.heap.size (w.heap.size + 1) (w.heap.size + 1) v u (playB (ss.take i)) ∧ Below w.heap.size w wr)) (fun s _ => n - (intOf s).toNat)
  case atStart => exact ⟨0, _, _, Nat.zero_le _, rfl, HP0.out⟩
  case round =>
    obtain ⟨i, v, u, hi, rfl, HI⟩ := hrel
    clear HP0
    by_cases hlt : i < n
    · have hii : (i : Int) < (n : Int) := by omega
      have hi0 : (0 : Int) ≤ (i : Int) := by omega
      have hil : i < ss.length := by have := HN.out; omega
      obtain ⟨b, off, e, hnn, hb, hc⟩ := st_cells (HS.out.below HI.out.2) (by omega)
      subst e
      obtain ⟨c0, c1, c2, c3, c4, c5, c6⟩ := hc i hil
      have HSN : Hid (playB (ss.take (i + 1)) = stepB ss[i] (playB (ss.take i))) := play_snoc ss i hil
      have HD : Hid (Calls Try.prog 10 #[.pointer (some ⟨w.heap.size, 0, none⟩), .pointer (some ⟨w.heap.size + 1, 0, none⟩), .agg (stE.c ss[i]).toArray] wr fun e w' => e = .returned (.bool true) ∧ ∃ v' u', Both9 w' w.heap.size (w.heap.size + 1) (w.heap.size + 1) v' u' (stepB ss[i] (playB (ss.take i))) ∧ Turn10 w.heap.size (w.heap.size + 1) v v' wr w') := by
        have hg := play_good (ss.take i)
        have hl : (ss.take i).length ≤ n := by rw [List.length_take]; omega
        exact does9_any _ _ _ ss[i] v u _ wr HI.out.1 hg.1 (by omega)
      obtain ⟨s, hs⟩ : ∃ s, s = ss[i] := ⟨_, rfl⟩
      rw [← hs] at c0 c1 c2 c3 c4 c5 c6 HSN HD
      clear hs hc hnn
      obtain ⟨sk, ⟨po, pl, pg, pp⟩, sa, sb⟩ := s
      simp only at c0 c1 c2 c3 c4 c5 c6
      go_wp2_with (go_at_call 10; refine HD.out.mono ?_; rintro e w2 ⟨rfl, v2, u2, hb2, ht2⟩; have HI2 : Hid (Both9 w2 w.heap.size (w.heap.size + 1) (w.heap.size + 1) v2 u2 (playB (ss.take (i + 1))) ∧ Below w.heap.size w w2) := ⟨by rw [HSN.out]; exact hb2, ht2.below HI.out.2 HI.out.2.size (Nat.le_refl _) (Nat.le_succ _) (fun k hk => by have := HI.out.1.em.row.block k hk; omega)⟩; clear hb2 ht2)
      go_roundw
      case rel => exact ⟨i + 1, _, _, by omega, by go_num, HI2.out⟩
      case measure => simp [intOf]; omega
    · have hin : ¬ (i : Int) < (n : Int) := by omega
      obtain ⟨ps, hps⟩ : ∃ z, z = playB (ss.take i) := ⟨_, rfl⟩
      have HG : Hid (Good9 ps ∧ ps.length ≤ 900) := by
        have hg := play_good (ss.take i)
        have hl : (ss.take i).length ≤ n := by rw [List.length_take]; omega
        rw [hps]
        exact ⟨hg.1, by omega⟩
      rw [← hps] at HI
      clear hps
      obtain ⟨wo, rfl⟩ : ∃ z, z = wr := ⟨_, rfl⟩
      have HRG : Hid (∀ X a b, Below wo.heap.size wo X → Calls Try.prog 16 #[.pointer (some ⟨w.heap.size, 0, none⟩), .int .i64 a, .int .i64 b] X fun e w' => ∃ v', e = .returned v' ∧ RowE pcE w' X.heap.size 35 v' (rangeB ps a b) ∧ Below X.heap.size X w') := fun X a b hb => erange_any w.heap.size _ a b v ps X (HI.out.1.em.below hb) HG.out.1.can.1 HG.out.1.fits (by have := HG.out.2; omega)
      have HFD : Hid (∀ X k, Below wo.heap.size wo X → Calls Try.prog 11 #[.pointer (some ⟨w.heap.size, 0, none⟩), .int .i64 k] X fun e w' => ∃ v, e = .returned v ∧ FindIs ps k v ∧ Below X.heap.size X w') := fun X k hb => efind_any w.heap.size _ k v ps X (HI.out.1.em.below hb) HG.out.1.can.1 HG.out.1.fits (by have := HG.out.2; omega)
      go_wp2_with fail
      go_at_call 16
      refine (HRG.out _ a b (Below.refl _ _)).mono ?_
      rintro e w3 ⟨v3, rfl, k1, hb3⟩
      obtain ⟨a3, c3, hv3⟩ := k1.sees.form
      obtain ⟨m, hm⟩ : ∃ m, m = (rangeB ps a b).length := ⟨_, rfl⟩
      have hs3 := k1.sees
      rw [hv3] at hs3
      rw [← hm] at hv3 hs3
      subst hv3
      have H3 : Hid (SeesE pcE w3 (.slice a3 m c3) (rangeB ps a b) ∧ m = (rangeB ps a b).length ∧ Below wo.heap.size wo w3) := ⟨hs3, hm, hb3⟩
      have hm900 : (m : Int) ≤ 900 := by have := HG.out.2; have := rng_len ps a b; omega
      clear k1 hb3 hm hs3
      go_wp2_with fail
      go_at_call 16
      refine (HRG.out _ b c H3.out.2.2).mono ?_
      rintro e w4 ⟨v4, rfl, k1, hb4⟩
      obtain ⟨a4, c4, hv4⟩ := k1.sees.form
      obtain ⟨m4, hm4⟩ : ∃ m, m = (rangeB ps b c).length := ⟨_, rfl⟩
      have hs4 := k1.sees
      rw [hv4] at hs4
      rw [← hm4] at hv4 hs4
      subst hv4
      have H4 : Hid (SeesE pcE w4 (.slice a3 m c3) (rangeB ps a b) ∧ SeesE pcE w4 (.slice a4 m4 c4) (rangeB ps b c) ∧ Below wo.heap.size wo w4) := ⟨H3.out.1.below hb4, hs4, bel_tr H3.out.2.2 hb4⟩
      clear k1 hb4 hm4 hs4
      go_wp2_with fail
      go_loopw [15] (fun s15 wx => ∃ k : Nat, k ≤ m ∧ s15 = .int .i64 (k : Int) ∧ Hid (Below w4.heap.size w4 wx)) (fun s15 _ => m - (intOf s15).toNat)
      case atStart => exact ⟨0, Nat.zero_le _, rfl, Below.refl _ _⟩
      case round =>
        obtain ⟨k, hk, rfl, HK⟩ := hrel
        by_cases hkm : k < m
        · have hki : (k : Int) < (m : Int) := by omega
          have hk0 : (0 : Int) ≤ (k : Int) := by omega
          have hkl : k < (rangeB ps a b).length := by have := H3.out.2.1; omega
          obtain ⟨bb, off, e, hnn, hbb, hc⟩ := pc_cells (H4.out.1.below HK.out) (by omega)
          subst e
          obtain ⟨c0, c1, c2, c5⟩ := hc k hkl
          have hy := rng_mem HG.out.1.can.1 (List.getElem_mem hkl)
          obtain ⟨y, hye⟩ : ∃ y, y = (rangeB ps a b)[k] := ⟨_, rfl⟩
          rw [← hye] at c0 c1 c2 c5 hy
          clear hye hc hnn
          obtain ⟨qo, ql, qg, qp⟩ := y
          obtain ⟨y1, y2, y3, p, hpm, hfb, y4, y5⟩ := hy
          have hfp := HG.out.1.fits p hpm
          have HFB : Hid (findB ps qo = some p) := hfb
          obtain ⟨po, pl, pg, pp⟩ := p
          obtain ⟨f0, f1, f2, f3, f4, f5, f6⟩ := hfp
          simp only at c0 c1 c2 c5 y1 y2 y3 y4 y5 f0 f1 f2 f3 f4 f5 f6
          clear hpm hfb
          subst y4 y5
          have hp1 : po ≤ qo ∧ qo < po + pl := by
            have := HFB.out
            have h2 := List.find?_some this
            unfold hasB at h2
            simpa using h2
          obtain ⟨hp1, hp2⟩ := hp1
          have hd1 : decide (qo < a) = false := by rw [decide_eq_false_iff_not]; omega
          have hd2 : decide (b < qo + ql) = false := by rw [decide_eq_false_iff_not]; omega
          go_wp2_with fail
          go_quiet (fail)
          obtain ⟨wq, hwq⟩ : ∃ z, z = wr.drewN nq := ⟨_, rfl⟩
          rw [← hwq]
          have hbq : Below wr.heap.size wr wq := by rw [hwq]; exact bel_drewN9 _ _
          have HWQ : Hid (Below w4.heap.size w4 wq) := bel_tr HK.out hbq
          have x0 : wq.cell? ⟨bb, off + k * 4, none⟩ = some (.int .i64 qo) := (hbq.cell (by exact hbb)).trans c0
          have x1 : wq.cell? ⟨bb, off + k * 4 + 1, none⟩ = some (.int .i64 ql) := (hbq.cell (by exact hbb)).trans c1
          have x2 : wq.cell? ⟨bb, off + k * 4 + 2, none⟩ = some (.int .i64 pg) := (hbq.cell (by exact hbb)).trans c2
          have x3 : wq.cell? ⟨bb, off + k * 4 + 3, none⟩ = some (.int .i64 (pp + qo - po)) := (hbq.cell (by exact hbb)).trans c5
          have hbbq : bb < wq.heap.size := Nat.lt_of_lt_of_le hbb hbq.size
          clear hwq c0 c1 c2 c5 hbq
          go_wp2_with fail
          go_at_call 11
          refine (HFD.out _ qo (bel_tr H4.out.2.2 HWQ.out)).mono ?_
          rintro e w6 ⟨v6, rfl, hfi, hb6⟩
          rcases hfi with ⟨p6, hf6, rfl⟩ | ⟨hf6, rfl⟩
          · rw [HFB.out] at hf6
            injection hf6 with hf6
            subst hf6
            obtain ⟨W1, hW1⟩ : ∃ z, z = w6.alloc (.cells #[.int .i64 po, .int .i64 pl, .int .i64 pg, .int .i64 pp] 35) := ⟨_, rfl⟩
            have hh : W1.heap[w6.heap.size]? = some (.cells #[.int .i64 po, .int .i64 pl, .int .i64 pg, .int .i64 pp] 35) := by rw [hW1]; exact (MapKept.heap_alloc w6 _).1
            have hbl : Below wq.heap.size wq W1 := bel_tr hb6 (by rw [hW1]; exact bel_newG _ _)
            have HW1 : Hid (Below w4.heap.size w4 W1) := bel_tr HWQ.out hbl
            have z0 : W1.cell? ⟨w6.heap.size, 0, none⟩ = some (.int .i64 po) := blk_cell hh rfl
            have z1 : W1.cell? ⟨w6.heap.size, 1, none⟩ = some (.int .i64 pl) := blk_cell hh rfl
            have z2 : W1.cell? ⟨w6.heap.size, 2, none⟩ = some (.int .i64 pg) := blk_cell hh rfl
            have z3 : W1.cell? ⟨w6.heap.size, 3, none⟩ = some (.int .i64 pp) := blk_cell hh rfl
            have y0 : W1.cell? ⟨bb, off + k * 4, none⟩ = some (.int .i64 qo) := (hbl.cell (by exact hbbq)).trans x0
            have y6 : W1.cell? ⟨bb, off + k * 4 + 1, none⟩ = some (.int .i64 ql) := (hbl.cell (by exact hbbq)).trans x1
            have y7 : W1.cell? ⟨bb, off + k * 4 + 2, none⟩ = some (.int .i64 pg) := (hbl.cell (by exact hbbq)).trans x2
            have y8 : W1.cell? ⟨bb, off + k * 4 + 3, none⟩ = some (.int .i64 (pp + qo - po)) := (hbl.cell (by exact hbbq)).trans x3
            clear hh hbl x0 x1 x2 x3 hb6
            simp only
            go_wp2_with fail
            rw [← hW1]
            clear hW1
            go_quiet (fail)
            have HWZ : Hid (Below w4.heap.size w4 (W1.drewN nq)) := bel_tr HW1.out (bel_drewN9 _ _)
            go_wp2_with fail
            go_roundw
            case rel => exact ⟨k + 1, by omega, by go_num, HWZ.out⟩
            case measure => simp [intOf]; omega
          · rw [HFB.out] at hf6
            cases hf6
        · have hki : ¬ (k : Int) < (m : Int) := by omega
          have H5 : Hid (SeesE pcE wr (.slice a3 m c3) (rangeB ps a b) ∧ SeesE pcE wr (.slice a4 m4 c4) (rangeB ps b c) ∧ Below wo.heap.size wo wr) := ⟨H4.out.1.below HK.out, H4.out.2.1.below HK.out, bel_tr H4.out.2.2 HK.out⟩
          have HSM : Hid (∀ (u : Value) (f g : Int) (X : World), SeesE pcE X u (rangeB ps f g) → Calls Try.prog 28 #[u] X fun e w' => e = .returned (.int .i64 (ps.map (len1 f g)).sum) ∧ w' = X) := fun u f g X hs => by
            have := sum9_any u (rangeB ps f g) X hs (by have := rng_len ps f g; have := HG.out.2; omega) (fun x hx => by
              obtain ⟨_, _, h1, p, hp, _⟩ := rng_mem HG.out.1.can.1 hx
              rw [rangeB_rng] at hx
              obtain ⟨p2, hp2, hx⟩ := List.mem_flatMap.1 hx
              have hf2 := HG.out.1.fits p2 hp2
              unfold rng1 at hx
              split at hx
              · rw [List.mem_singleton] at hx
                subst hx
                unfold Fit at hf2
                simp only [Pc.sub] at h1 ⊢
                omega
              · cases hx)
            rw [rng_sum] at this
            exact this
          obtain ⟨s1, hs1⟩ : ∃ z, z = (ps.map (len1 a b)).sum := ⟨_, rfl⟩
          obtain ⟨s2, hs2⟩ : ∃ z, z = (ps.map (len1 b c)).sum := ⟨_, rfl⟩
          have hs3 : (ps.map (len1 a c)).sum = s1 + s2 := by rw [hs1, hs2]; exact (sum_split ps (by omega) (by omega)).symm
          have hbd : ∀ f g : Int, 0 ≤ (ps.map (len1 f g)).sum ∧ (ps.map (len1 f g)).sum ≤ 2147483648 * 900 := fun f g => by
            have h1 : ∀ l : List Pc, Fits l → 0 ≤ (l.map (len1 f g)).sum ∧ (l.map (len1 f g)).sum ≤ 2147483648 * l.length := fun l => by
              induction l with
              | nil => intro _; simp
              | cons x l ih =>
                intro hf
                have h2 := ih fun y hy => hf y (List.mem_cons_of_mem _ hy)
                have h3 := hf x (List.mem_cons_self ..)
                rw [List.map_cons, List.sum_cons, List.length_cons]
                have h4 : 0 ≤ len1 f g x ∧ len1 f g x ≤ 2147483648 := by
                  unfold Fit at h3
                  unfold len1
                  split <;> omega
                have : (2147483648 : Int) * ((l.length + 1 : Nat) : Int) = 2147483648 * l.length + 2147483648 := by rw [Int.natCast_add]; omega
                omega
            have h2 := h1 ps HG.out.1.fits
            have h3 := HG.out.2
            omega
          have hb1 := hbd a b
          have hb2 := hbd b c
          rw [← hs1] at hb1
          rw [← hs2] at hb2
          obtain ⟨b11, b12⟩ := hb1
          obtain ⟨b21, b22⟩ := hb2
          have HS1 : Hid (∀ X, SeesE pcE X (.slice a3 m c3) (rangeB ps a b) → Calls Try.prog 28 #[.slice a3 m c3] X fun e w' => e = .returned (.int .i64 s1) ∧ w' = X) := fun X hX => by rw [hs1]; exact HSM.out _ a b X hX
          have HS2 : Hid (∀ X, SeesE pcE X (.slice a4 m4 c4) (rangeB ps b c) → Calls Try.prog 28 #[.slice a4 m4 c4] X fun e w' => e = .returned (.int .i64 s2) ∧ w' = X) := fun X hX => by rw [hs2]; exact HSM.out _ b c X hX
          have HS3 : Hid (∀ u X, SeesE pcE X u (rangeB ps a c) → Calls Try.prog 28 #[u] X fun e w' => e = .returned (.int .i64 (s1 + s2)) ∧ w' = X) := fun u X hX => by rw [← hs3]; exact HSM.out u a c X hX
          clear hs1 hs2 hs3 hbd HSM HFD
          go_wp2_with fail
          go_at_call 28
          refine (HS1.out _ H5.out.1).mono ?_
          rintro e w5 ⟨rfl, h5⟩
          subst h5
          go_wp2_with fail
          go_at_call 28
          refine (HS2.out _ H5.out.2.1).mono ?_
          rintro e w5 ⟨rfl, h5⟩
          subst h5
          go_wp2_with fail
          go_at_call 16
          refine (HRG.out _ a c H5.out.2.2).mono ?_
          rintro e w6 ⟨v6, rfl, k1, hb6⟩
          have H6 : Hid (SeesE pcE w6 v6 (rangeB ps a c) ∧ Below wo.heap.size wo w6) := ⟨k1.sees, bel_tr H5.out.2.2 hb6⟩
          clear k1 hb6
          go_wp2_with fail
          go_at_call 28
          refine (HS3.out _ _ H6.out.1).mono ?_
          rintro e w7 ⟨rfl, h7⟩
          subst h7
          go_wp2_with fail
          go_at_call 8
          refine (awake9_any _).mono ?_
          rintro e w8 ⟨rfl, hb8⟩
          have HZ : Hid (Below w.heap.size w w8) := bel_tr HI.out.2 (bel_tr H6.out.2 hb8)
          clear hb8
          go_wp2_with fail
          go_ret
          exact ⟨rfl, HZ.out⟩
end Go.Proofs.Ythdmclhccbjgoaa
