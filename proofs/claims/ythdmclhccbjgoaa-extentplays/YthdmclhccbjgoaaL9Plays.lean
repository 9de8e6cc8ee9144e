/- dolmenlaw9.ExtentPlays. -/
import Derived.Test.YthdmclhccbjgoaaLPlay9
import Derived.Deep.RegionHeld3
import Derived.Test.YthdmclhccbjgoaaEPages
import Derived.Test.YthdmclhccbjgoaaLInts
import Derived.Test.YthdmclhccbjgoaaREnd
import Derived.Test.YthdmclhccbjgoaaRFind
import Derived.Test.YthdmclhccbjgoaaRRange
namespace Go.Proofs.Ythdmclhccbjgoaa
open Go.RowKit Kit
set_option linter.unusedVariables false

theorem find_det (ps : List Pc) (k : Int) : ∃ (x : Pc) (ok : Bool), ∀ v, FindIs ps k v → v = .tuple #[.agg #[.int .i64 x.off, .int .i64 x.len, .int .i64 x.page, .int .i64 x.pos], .bool ok] := by
  cases h : findB ps k with
  | none =>
    refine ⟨⟨0, 0, 0, 0⟩, false, fun v hv => ?_⟩
    rcases hv with ⟨p, hp, _⟩ | ⟨_, e⟩
    · rw [h] at hp; cases hp
    · exact e
  | some p =>
    refine ⟨p, true, fun v hv => ?_⟩
    rcases hv with ⟨p2, hp, e⟩ | ⟨hn, _⟩
    · rw [h] at hp; injection hp with hp; rw [hp]; exact e
    · rw [h] at hn; cases hn
set_option maxRecDepth 4000 in
set_option maxHeartbeats 16000000 in
theorem plays_any (v0 : Value) (ss : List St9) (off tu : Int) (w : World) (hs : SeesE stE w v0 ss) :
    Calls Try.prog 3 #[v0, .int .i64 off, .int .i64 tu] w fun e w' => e = .returned (.bool true) ∧ Below w.heap.size w w' := by
  obtain ⟨ao, cap, rfl⟩ := hs.form
  obtain ⟨n, hn⟩ : ∃ n, n = ss.length := ⟨_, rfl⟩
  rw [← hn] at hs ⊢
  have HS : Hid (SeesE stE w (.slice ao n cap) ss) := hs
  have HN : Hid (n = ss.length) := hn
  clear hs hn
  by_cases hbig : 80 < n
  · have hbi : (80 : Int) < (n : Int) := by omega
    go_enter Try.func3, Try.ntmps3
    go_wp2_with (go_at_call 8; refine (awake9_any _).mono ?_; rintro e w1 ⟨rfl, hb1⟩)
    go_ret
    exact ⟨rfl, hb1⟩
  have hnN : (n : Int) ≤ 80 := by omega
  go_enter Try.func3, Try.ntmps3
  go_wp2_with (go_at_call 9; refine (enew_any _).mono ?_; rintro e w1 ⟨rfl, rfl⟩)
  have HP0 : Hid (Both9 ((w.alloc (.cells #[.slice none 0 0] 59)).alloc (.cells #[.slice none 0 0] 29)) w.heap.size (w.heap.size + 1) (w.heap.size + 1) (.slice none 0 0) (.slice none 0 0) (playB (ss.take 0)) ∧ Below w.heap.size w ((w.alloc (.cells #[.slice none 0 0] 59)).alloc (.cells #[.slice none 0 0] 29))) := ⟨play_new w, bel_tr (bel_newG _ _) (bel_newG _ _)⟩
  go_loopw [9] (fun s wr => ∃ (i : Nat) (v u : Value), i ≤ n ∧ s = .int .i64 (i : Int) ∧ Hid (Both9 wr w.heap.size (w.heap.size + 1) (w.heap.size + 1) v u (playB (ss.take i)) ∧ Below w.heap.size w wr)) (fun s _ => n - (intOf s).toNat)
  case atStart => exact ⟨0, _, _, Nat.zero_le _, rfl, HP0.out⟩
  case round =>
    obtain ⟨i, v, u, hi, rfl, HI⟩ := hrel
    clear HP0
    by_cases hlt : i < n
    · have hii : (i : Int) < (n : Int) := by omega
      have hi0 : (0 : Int) ≤ (i : Int) := by omega
      have hil : i < ss.length := by have := HN.out; omega
      obtain ⟨b, off, e, hnn, hb, hc⟩ := st_cells (HS.out.below HI.out.2) (by omega)
      subst e
      obtain ⟨c0, c1, c2, c3, c4, c5, c6⟩ := hc i hil
      have HSN : Hid (playB (ss.take (i + 1)) = stepB ss[i] (playB (ss.take i))) := play_snoc ss i hil
      have HD : Hid (Calls Try.prog 10 #[.pointer (some ⟨w.heap.size, 0, none⟩), .pointer (some ⟨w.heap.size + 1, 0, none⟩), .agg (stE.c ss[i]).toArray] wr fun e w' => e = .returned (.bool true) ∧ ∃ v' u', Both9 w' w.heap.size (w.heap.size + 1) (w.heap.size + 1) v' u' (stepB ss[i] (playB (ss.take i))) ∧ Turn10 w.heap.size (w.heap.size + 1) v v' wr w') := by
        have hg := play_good (ss.take i)
        have hl : (ss.take i).length ≤ n := by rw [List.length_take]; omega
        exact does9_any _ _ _ ss[i] v u _ wr HI.out.1 hg.1 (by omega)
      obtain ⟨s, hs⟩ : ∃ s, s = ss[i] := ⟨_, rfl⟩
      rw [← hs] at c0 c1 c2 c3 c4 c5 c6 HSN HD
      clear hs hc hnn
      obtain ⟨sk, ⟨po, pl, pg, pp⟩, sa, sb⟩ := s
      simp only at c0 c1 c2 c3 c4 c5 c6
      go_wp2_with (go_at_call 10; refine HD.out.mono ?_; rintro e w2 ⟨rfl, v2, u2, hb2, ht2⟩; have HI2 : Hid (Both9 w2 w.heap.size (w.heap.size + 1) (w.heap.size + 1) v2 u2 (playB (ss.take (i + 1))) ∧ Below w.heap.size w w2) := ⟨by rw [HSN.out]; exact hb2, ht2.below HI.out.2 HI.out.2.size (Nat.le_refl _) (Nat.le_succ _) (fun k hk => by have := HI.out.1.em.row.block k hk; omega)⟩; clear hb2 ht2)
      go_roundw
      case rel => exact ⟨i + 1, _, _, by omega, by go_num, HI2.out⟩
      case measure => simp [intOf]; omega
    · have hin : ¬ (i : Int) < (n : Int) := by omega
      obtain ⟨ps, hps⟩ : ∃ z, z = playB (ss.take i) := ⟨_, rfl⟩
      have HG : Hid (Good9 ps ∧ ps.length ≤ 900) := by
        have hg := play_good (ss.take i)
        have hl : (ss.take i).length ≤ n := by rw [List.length_take]; omega
        rw [hps]
        exact ⟨hg.1, by omega⟩
      rw [← hps] at HI
      clear hps
      obtain ⟨wo, rfl⟩ : ∃ z, z = wr := ⟨_, rfl⟩
      clear HS HN hbig
      obtain ⟨x, ok, hx⟩ := find_det ps off
      have HX : Hid (∀ v, FindIs ps off v → v = .tuple #[.agg #[.int .i64 x.off, .int .i64 x.len, .int .i64 x.page, .int .i64 x.pos], .bool ok]) := hx
      clear hx
      obtain ⟨xo, xl, xg, xp⟩ := x
      simp only at HX
      go_wp2_with fail
      go_at_call 11
      refine (efind_any w.heap.size _ off v ps wo HI.out.1.em HG.out.1.can.1 HG.out.1.fits (by have := HG.out.2; omega)).mono ?_
      rintro e w2 ⟨v2, rfl, hfi, hb2⟩
      have hv2 := HX.out _ hfi
      subst hv2
      clear hfi
      simp only
      go_upto_region 13 with fail
      obtain ⟨W1, hW1⟩ : ∃ z, z = w2.alloc (.cells #[.int .i64 xo, .int .i64 xl, .int .i64 xg, .int .i64 xp] 35) := ⟨_, rfl⟩
      have hh : W1.heap[w2.heap.size]? = some (.cells #[.int .i64 xo, .int .i64 xl, .int .i64 xg, .int .i64 xp] 35) := by rw [hW1]; exact (MapKept.heap_alloc w2 _).1
      have H1 : Hid (Below wo.heap.size wo W1 ∧ W1.heap[w2.heap.size]? = some (.cells #[.int .i64 xo, .int .i64 xl, .int .i64 xg, .int .i64 xp] 35)) := ⟨bel_tr hb2 (by rw [hW1]; exact bel_newG _ _), hh⟩
      rw [← hW1]
      clear hW1 hh hb2
      go_wp2_with fail
      go_at_call 12
      refine (rfind_any (w.heap.size + 1) off ps W1 ⟨u, (HI.out.1.below H1.out.1).rc, (HI.out.1.below H1.out.1).rs⟩ (by have := HG.out.2; omega) HG.out.1.fits).mono ?_
      rintro e w3 ⟨v3, rfl, hfi, hb3⟩
      have hv3 := HX.out _ hfi
      subst hv3
      clear hfi HX
      simp only
      go_upto_region 14 with fail
      obtain ⟨W2, hW2⟩ : ∃ z, z = w3.alloc (.cells #[.int .i64 xo, .int .i64 xl, .int .i64 xg, .int .i64 xp] 32) := ⟨_, rfl⟩
      have hh : W2.heap[w3.heap.size]? = some (.cells #[.int .i64 xo, .int .i64 xl, .int .i64 xg, .int .i64 xp] 32) := by rw [hW2]; exact (MapKept.heap_alloc w3 _).1
      have hbl : Below W1.heap.size W1 W2 := bel_tr hb3 (by rw [hW2]; exact bel_newG _ _)
      rw [← hW2]
      have ha := blk_below hbl H1.out.2
      have HB2 : Hid (Both9 W2 w.heap.size (w.heap.size + 1) (w.heap.size + 1) v u ps ∧ Below w.heap.size w W2) := ⟨HI.out.1.below (bel_tr H1.out.1 hbl), bel_tr HI.out.2 (bel_tr H1.out.1 hbl)⟩
      clear hW2 hbl hb3 HI H1
      have hq := HB2.out.1.rc
      have HKQ : Hid (∀ {X : World}, Below W2.heap.size W2 X → X.cell? ⟨w.heap.size + 1, 0, none⟩ = some u ∧ X.cell? ⟨w2.heap.size, 0, none⟩ = some (.int .i64 xo) ∧ X.cell? ⟨w2.heap.size, 1, none⟩ = some (.int .i64 xl) ∧ X.cell? ⟨w2.heap.size, 2, none⟩ = some (.int .i64 xg) ∧ X.cell? ⟨w2.heap.size, 3, none⟩ = some (.int .i64 xp) ∧ X.cell? ⟨w3.heap.size, 0, none⟩ = some (.int .i64 xo) ∧ X.cell? ⟨w3.heap.size, 1, none⟩ = some (.int .i64 xl) ∧ X.cell? ⟨w3.heap.size, 2, none⟩ = some (.int .i64 xg) ∧ X.cell? ⟨w3.heap.size, 3, none⟩ = some (.int .i64 xp)) := fun hb =>
        have k0 := blk_below hb hq
        have k1 := blk_below hb ha
        have k2 := blk_below hb hh
        ⟨blk_cell k0 rfl, blk_cell k1 rfl, blk_cell k1 rfl, blk_cell k1 rfl, blk_cell k1 rfl, blk_cell k2 rfl, blk_cell k2 rfl, blk_cell k2 rfl, blk_cell k2 rfl⟩
      have hpl : ps.length ≤ 1000 := by have := HG.out.2; omega
      have HRL : Hid ((rangeB ps off tu).length ≤ 100000) := by have := rng_len ps off tu; show _ ≤ _; omega
      have HPI : Hid (∀ X, Below W2.heap.size W2 X → Calls Try.prog 14 #[.pointer (some ⟨w.heap.size, 0, none⟩)] X fun e w' => ∃ v', e = .returned v' ∧ RowE pcE w' X.heap.size 35 v' ps ∧ Below X.heap.size X w') := fun X hb => epieces_any w.heap.size _ v ps X (HB2.out.1.em.below hb) (by omega)
      have HRG : Hid (∀ X, Below W2.heap.size W2 X → Calls Try.prog 16 #[.pointer (some ⟨w.heap.size, 0, none⟩), .int .i64 off, .int .i64 tu] X fun e w' => ∃ v', e = .returned v' ∧ RowE pcE w' X.heap.size 35 v' (rangeB ps off tu) ∧ Below X.heap.size X w') := fun X hb => erange_any w.heap.size _ off tu v ps X (HB2.out.1.em.below hb) HG.out.1.can.1 HG.out.1.fits hpl
      have HXR : Hid (∀ X, Below W2.heap.size W2 X → Calls Try.prog 17 #[.pointer (some ⟨w.heap.size + 1, 0, none⟩), .int .i64 off, .int .i64 tu] X fun e w' => ∃ v', e = .returned v' ∧ RowE pcE w' X.heap.size 32 v' (rangeB ps off tu) ∧ Below X.heap.size X w') := fun X hb => rrange_any (w.heap.size + 1) off tu ps X ⟨u, (HB2.out.1.below hb).rc, (HB2.out.1.below hb).rs⟩ hpl HG.out.1.fits
      have HPG : Hid (∀ X, Below W2.heap.size W2 X → Calls Try.prog 19 #[.pointer (some ⟨w.heap.size, 0, none⟩)] X fun e w' => ∃ r, e = .returned r ∧ RowV w' X.heap.size 3 r (iV (srtI (ps.map Pc.page))) ∧ Below X.heap.size X w') := fun X hb => epages_any w.heap.size _ v ps X (HB2.out.1.em.below hb) hpl
      have HXP : Hid (∀ X, Below W2.heap.size W2 X → Calls Try.prog 20 #[.pointer (some ⟨w.heap.size + 1, 0, none⟩)] X fun e w' => ∃ r, e = .returned r ∧ RowV w' X.heap.size 3 r (iV (srtI (ps.map Pc.page))) ∧ Below X.heap.size X w') := fun X hb => rpages_any (w.heap.size + 1) ps X ⟨u, (HB2.out.1.below hb).rc, (HB2.out.1.below hb).rs⟩ hpl
      have HEE : Hid (∀ X, Below W2.heap.size W2 X → Calls Try.prog 21 #[.pointer (some ⟨w.heap.size, 0, none⟩)] X fun e w' => e = .returned (.int .i64 (endB ps)) ∧ Below X.heap.size X w') := fun X hb => eend_any w.heap.size _ v ps X (HB2.out.1.em.below hb) hpl HG.out.1.fits
      have HXE : Hid (∀ X, Below W2.heap.size W2 X → Calls Try.prog 22 #[.pointer (some ⟨w.heap.size + 1, 0, none⟩)] X fun e w' => e = .returned (.int .i64 (endB ps)) ∧ Below X.heap.size X w') := fun X hb => rend_any (w.heap.size + 1) ps X ⟨u, (HB2.out.1.below hb).rc, (HB2.out.1.below hb).rs⟩ hpl HG.out.1.fits
      obtain ⟨en, hen⟩ : ∃ z, z = endB ps := ⟨_, rfl⟩
      rw [← hen] at HEE HXE
      have hok : (ok == ok) = true := beq_self_eq_true ok
      clear hq ha hh hen
      have hpl5 : ps.length ≤ 100000 := by omega
      go_region_held3 (fun X => X.cell? ⟨w.heap.size + 1, 0, none⟩ = some u ∧ X.cell? ⟨w2.heap.size, 0, none⟩ = some (.int .i64 xo) ∧ X.cell? ⟨w2.heap.size, 1, none⟩ = some (.int .i64 xl) ∧ X.cell? ⟨w2.heap.size, 2, none⟩ = some (.int .i64 xg) ∧ X.cell? ⟨w2.heap.size, 3, none⟩ = some (.int .i64 xp) ∧ X.cell? ⟨w3.heap.size, 0, none⟩ = some (.int .i64 xo) ∧ X.cell? ⟨w3.heap.size, 1, none⟩ = some (.int .i64 xl) ∧ X.cell? ⟨w3.heap.size, 2, none⟩ = some (.int .i64 xg) ∧ X.cell? ⟨w3.heap.size, 3, none⟩ = some (.int .i64 xp)) (first | exact HKQ.out (bel_drew W2) | exact HKQ.out hw4 | exact HKQ.out hw5 | exact HKQ.out hw6 | exact HKQ.out hw7 | exact HKQ.out hw8 | exact HKQ.out hw9 | exact HKQ.out hw10 | exact HKQ.out hw11 | exact HKQ.out hw12 | exact HKQ.out hw13 | exact HKQ.out hw14 | exact HKQ.out hw15)
        (first
          | (go_at_call 13; refine (lpieces_any _ _ (rangeB ps off tu) _ (k7.sees.below b8) k8.sees HRL.out).mono ?_; rintro e w9 ⟨rfl, b9⟩; have hw9 : Below W2.heap.size W2 w9 := bel_tr hw8 b9)
          | (go_at_call 14; refine (HPI.out _ (bel_drew W2)).mono ?_; rintro e w4 ⟨v4, rfl, k4, b4⟩; have hw4 : Below W2.heap.size W2 w4 := bel_tr (bel_drew W2) b4)
          | (go_at_call 13; refine (lpieces_any _ u ps _ k4.sees (HB2.out.1.rs.below hw4) hpl5).mono ?_; rintro e w5 ⟨rfl, b5⟩; have hw5 : Below W2.heap.size W2 w5 := bel_tr hw4 b5)
          | (go_at_call 15; refine (lpiece_any xo xl xg xp _).mono ?_; rintro e w6 ⟨rfl, b6⟩; have hw6 : Below W2.heap.size W2 w6 := bel_tr hw5 b6)
          | (go_at_call 16; refine (HRG.out _ hw6).mono ?_; rintro e w7 ⟨v7, rfl, k7, b7⟩; have hw7 : Below W2.heap.size W2 w7 := bel_tr hw6 b7)
          | (go_at_call 17; refine (HXR.out _ hw7).mono ?_; rintro e w8 ⟨v8, rfl, k8, b8⟩; have hw8 : Below W2.heap.size W2 w8 := bel_tr hw7 b8)
          | (go_at_call 19; refine (HPG.out _ hw9).mono ?_; rintro e w10 ⟨v10, rfl, k10, b10⟩; have hw10 : Below W2.heap.size W2 w10 := bel_tr hw9 b10)
          | (go_at_call 20; refine (HXP.out _ hw10).mono ?_; rintro e w11 ⟨v11, rfl, k11, b11⟩; have hw11 : Below W2.heap.size W2 w11 := bel_tr hw10 b11)
          | (go_at_call 18; refine (ints_same _ _ _ _ (k10.below b11).sees k11.sees).mono ?_; rintro e w12 ⟨rfl, b12⟩; have hw12 : Below W2.heap.size W2 w12 := bel_tr hw11 b12)
          | (go_at_call 21; refine (HEE.out _ hw12).mono ?_; rintro e w13 ⟨rfl, b13⟩; have hw13 : Below W2.heap.size W2 w13 := bel_tr hw12 b13)
          | (go_at_call 22; refine (HXE.out _ hw13).mono ?_; rintro e w14 ⟨rfl, b14⟩; have hw14 : Below W2.heap.size W2 w14 := bel_tr hw13 b14)
          | (go_at_call 8; refine (awake9_any _).mono ?_; rintro e w15 ⟨rfl, b15⟩; have hw15 : Below W2.heap.size W2 w15 := bel_tr hw14 b15)
          | fail)
      have HZ : Hid (Below w.heap.size w w15) := bel_tr HB2.out.2 hw15
      clear hw4 hw5 hw6 hw7 hw8 hw9 hw10 hw11 hw12 hw13 hw14 hw15 k4 k7 k8 k10 k11 b4 b5 b6 b7 b8 b9 b10 b11 b12 b13 b14 b15
      go_wp2_with fail
      go_ret
      exact ⟨rfl, HZ.out⟩
end Go.Proofs.Ythdmclhccbjgoaa
