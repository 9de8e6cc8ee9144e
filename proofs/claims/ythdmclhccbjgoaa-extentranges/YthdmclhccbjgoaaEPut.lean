/- package extent: Put. -/
import Derived.Test.YthdmclhccbjgoaaEPutA
import Derived.Deep.RegionWith
namespace Go.Proofs.Ythdmclhccbjgoaa
open Go.RowKit Kit
set_option linter.unusedVariables false

set_option maxRecDepth 4000 in
set_option maxHeartbeats 8000000 in
theorem eput_good (p B : Nat) (xo xl xg xp : Int) (v : Value) (ps : List Pc) (w : World) (hm : EMap w p B v ps) (hg : Good9 ps) (hl : ps.length ≤ 900) (hx : Put9 (⟨xo, xl, xg, xp⟩ : Pc)) :
    Calls Try.prog 25 #[.pointer (some ⟨p, 0, none⟩), .agg #[.int .i64 xo, .int .i64 xl, .int .i64 xg, .int .i64 xp]] w fun e w' => e = .returned .nilIface ∧ ∃ v', EMap w' p B v' (putB ps ⟨xo, xl, xg, xp⟩) ∧ Turn9 p v v' w w' := by
  have HM : Hid (EMap w p B v ps) := hm
  have HX : Hid (Put9 (⟨xo, xl, xg, xp⟩ : Pc)) := hx
  have HMAY : Hid (∀ n : World, Calls Try.prog 41 #[.agg #[.int .i64 xo, .int .i64 xl, .int .i64 xg, .int .i64 xp]] n fun e w' => e = .returned (.bool true) ∧ Below n.heap.size n w') := fun n => (emay_any xo xl xg xp n).mono fun e w' ⟨h1, h2⟩ => ⟨h1.elim (fun h3 => h3.2) (fun h3 => absurd hx h3.1), h2⟩
  have hfit := put9_fit hx
  obtain ⟨p0, p1, p2, p3, p4, p5, p6, p7⟩ := hx
  simp only at p0 p1 p2 p3 p4 p5 p6 p7
  obtain ⟨c, hc⟩ : ∃ z, z = clearB xo (xo + xl) ps := ⟨_, rfl⟩
  obtain ⟨i, hi⟩ : ∃ z, z = firstI xo c := ⟨_, rfl⟩
  have HPI : Hid ((if i = 0 then joinAt 0 (c.take i ++ ⟨xo, xl, xg, xp⟩ :: c.drop i) else joinAt (i - 1) (joinAt i (c.take i ++ ⟨xo, xl, xg, xp⟩ :: c.drop i))) = putB ps ⟨xo, xl, xg, xp⟩) := put_is (x := ⟨xo, xl, xg, xp⟩) (by simp only; omega) hg.can c hc i hi
  have HCR : Hid (Rise c ∧ Fits c ∧ c.length ≤ ps.length + 1 ∧ i = firstI xo c ∧ i ≤ c.length) := ⟨by rw [hc]; exact rise_clear (by omega) hg.can.1, by rw [hc]; exact fits_clear hg.fits, by rw [hc]; exact clear_len (by omega) hg.can.1, hi, by rw [hi]; exact first_le _ _⟩
  have HG : Hid (Good9 ps ∧ ps.length ≤ 900 ∧ c = clearB xo (xo + xl) ps) := ⟨hg, hl, hc⟩
  obtain ⟨L1, hL1⟩ : ∃ z, z = c.take i ++ [⟨xo, xl, xg, xp⟩] ++ c.drop i := ⟨_, rfl⟩
  have HL1 : Hid (L1 = c.take i ++ ⟨xo, xl, xg, xp⟩ :: c.drop i ∧ Fits L1 ∧ L1.length ≤ 902) := by
    have e : L1 = c.take i ++ ⟨xo, xl, xg, xp⟩ :: c.drop i := by rw [hL1]; simp
    refine ⟨e, ?_, ?_⟩
    · rw [e]; exact fits_mid HCR.out.2.1 hfit i
    · rw [e]; simp; have := HCR.out.2.2.1; omega
  have HL2 : Hid (c.take i ++ [⟨xo, xl, xg, xp⟩] ++ c.drop i = L1) := hL1.symm
  have hpw := blk_lt hm.cell
  have hvl : v.ownBlock ≠ some w.heap.size := fun e => by have := row_lt hm.row e; omega
  obtain ⟨W, hW⟩ : ∃ z, z = w.alloc (.cells #[.int .i64 xo, .int .i64 xl, .int .i64 xg, .int .i64 xp] 35) := ⟨_, rfl⟩
  have HW : Hid (Below w.heap.size w W ∧ w.heap.size < W.heap.size ∧ W.heap[w.heap.size]? = some (.cells #[.int .i64 xo, .int .i64 xl, .int .i64 xg, .int .i64 xp] 35)) := by rw [hW]; exact ⟨bel_newG _ _, by simp, (MapKept.heap_alloc w _).1⟩
  clear hm hg hl hc hi hL1 hfit
  go_enter Try.func25, Try.ntmps25
  go_wp2_with fail
  rw [← hW]
  clear hW
  go_at_call 41
  refine (HMAY.out _).mono ?_
  rintro e w1 ⟨rfl, hb1⟩
  have hbx1 := blk_below hb1 HW.out.2.2
  have b0 : w1.cell? ⟨w.heap.size, 0, none⟩ = some (.int .i64 xo) := blk_cell hbx1 rfl
  have b1 : w1.cell? ⟨w.heap.size, 1, none⟩ = some (.int .i64 xl) := blk_cell hbx1 rfl
  have b2 : w1.cell? ⟨w.heap.size, 2, none⟩ = some (.int .i64 xg) := blk_cell hbx1 rfl
  have b3 : w1.cell? ⟨w.heap.size, 3, none⟩ = some (.int .i64 xp) := blk_cell hbx1 rfl
  have HB1 : Hid (Below w.heap.size w w1 ∧ w1.heap[w.heap.size]? = some (.cells #[.int .i64 xo, .int .i64 xl, .int .i64 xg, .int .i64 xp] 35)) := ⟨bel_tr HW.out.1 hb1, hbx1⟩
  clear hb1 hbx1
  go_wp2_with fail
  go_at_call 40
  refine (ehole_some p B xo xl xg xp v ps _ (HM.out.below HB1.out.1) HG.out.1.can.1 HG.out.1.fits HG.out.2.1 (by omega) (by omega) (by omega) (by omega)).mono ?_
  rw [← HG.out.2.2]
  rintro e w2 ⟨rfl, v2, hm2, ht2⟩
  have hbx2 : w2.heap[w.heap.size]? = some (.cells #[.int .i64 xo, .int .i64 xl, .int .i64 xg, .int .i64 xp] 35) := by
    rw [ht2.block w.heap.size (blk_lt HB1.out.2) (by omega) hvl]; exact HB1.out.2
  have HT2 : Hid (EMap w2 p B v2 c ∧ Turn9 p v v2 w w2 ∧ w2.heap[w.heap.size]? = some (.cells #[.int .i64 xo, .int .i64 xl, .int .i64 xg, .int .i64 xp] 35)) := ⟨hm2, (turn9_below HB1.out.1).trans ht2, hbx2⟩
  clear b0 b1 b2 b3 hm2 ht2
  have b0 : w2.cell? ⟨w.heap.size, 0, none⟩ = some (.int .i64 xo) := blk_cell hbx2 rfl
  clear hbx2
  go_wp2_with fail
  go_at_call 32
  refine (efirst_any p xo v2 c _ HT2.out.1.cell HT2.out.1.row.sees HCR.out.1 HCR.out.2.1 (by have := HCR.out.2.2.1; have := HG.out.2.1; omega)).mono ?_
  rw [← HCR.out.2.2.2.1]
  rintro e w3 ⟨rfl, hb3⟩
  clear b0
  have HT3 : Hid (EMap w3 p B v2 c ∧ Turn9 p v v2 w w3 ∧ w3.heap[w.heap.size]? = some (.cells #[.int .i64 xo, .int .i64 xl, .int .i64 xg, .int .i64 xp] 35)) := ⟨HT2.out.1.below hb3, HT2.out.2.1.trans (turn9_below hb3), blk_below hb3 HT2.out.2.2⟩
  clear hb3
  obtain ⟨a2, c2, hv2⟩ := HT3.out.1.row.sees.form
  obtain ⟨n2, hn2⟩ : ∃ z, z = c.length := ⟨_, rfl⟩
  rw [← hn2] at hv2
  clear hn2
  subst hv2
  have b0 : w3.cell? ⟨w.heap.size, 0, none⟩ = some (.int .i64 xo) := blk_cell HT3.out.2.2 rfl
  have b1 : w3.cell? ⟨w.heap.size, 1, none⟩ = some (.int .i64 xl) := blk_cell HT3.out.2.2 rfl
  have b2 : w3.cell? ⟨w.heap.size, 2, none⟩ = some (.int .i64 xg) := blk_cell HT3.out.2.2 rfl
  have b3 : w3.cell? ⟨w.heap.size, 3, none⟩ = some (.int .i64 xp) := blk_cell HT3.out.2.2 rfl
  have q0 : w3.cell? ⟨p, 0, none⟩ = some (.slice a2 n2 c2) := blk_cell HT3.out.1.cell rfl
  have hl1 : w.heap.size < w3.heap.size := blk_lt HT3.out.2.2
  have hl2 : p < w3.heap.size := blk_lt HT3.out.1.cell
  have HIN : Hid (Calls Try.prog 42 #[.slice a2 n2 c2, .int .i64 (i : Int), .slice (some ⟨w3.heap.size, 0, none⟩) 1 1] (w3.alloc (.cells #[.int .i64 xo, .int .i64 xl, .int .i64 xg, .int .i64 xp] 35)).drew fun e w' => ∃ a6 n6 c6, e = .returned (.slice a6 n6 c6) ∧ w'.cell? ⟨p, 0, none⟩ = some (.slice a2 n2 c2) ∧ w'.frozen? ⟨p, 0, none⟩ = false ∧ Hid (EMap (w'.setCell ⟨p, 0, none⟩ (.slice a6 n6 c6)) p B (.slice a6 n6 c6) L1 ∧ Turn9 p v (.slice a6 n6 c6) w (w'.setCell ⟨p, 0, none⟩ (.slice a6 n6 c6)))) := by
    have hb5 : Below w3.heap.size w3 (w3.alloc (.cells #[.int .i64 xo, .int .i64 xl, .int .i64 xg, .int .i64 xp] 35)).drew := (bel_newG _ _).drew
    have hm5 := HT3.out.1.below hb5
    refine (sins_any (.slice a2 n2 c2) B i w3.heap.size c ⟨xo, xl, xg, xp⟩ _ hm5.row hm5.low HCR.out.2.2.2.2 (by have := HCR.out.2.2.1; have := HG.out.2.1; omega) (MapKept.heap_alloc w3 _).1 (fun e => by have := row_lt HT3.out.1.row e; omega)).mono ?_
    rw [HL2.out]
    rintro e w6 ⟨v6, rfl, k1, k2, k3⟩
    obtain ⟨a6, c6, hv6⟩ := k1.sees.form
    obtain ⟨n6, hn6⟩ : ∃ z, z = L1.length := ⟨_, rfl⟩
    rw [← hn6] at hv6
    subst hv6
    have hp6 : w6.heap[p]? = some (.cells #[.slice a2 n2 c2] 59) := by rw [k2.block p (blk_lt hm5.cell) (fun e => hm5.off e.symm)]; exact hm5.cell
    have hst := emap_store hm5 k2 k1 k3
    exact ⟨a6, n6, c6, rfl, blk_cell hp6 rfl, blk_frozen hp6 0, hst.1, (HT3.out.2.1.trans (turn9_below hb5)).trans hst.2⟩
  go_upto_region 5 with fail
  go_cut [29] from 21 to 31 (fun s29 wx => ∃ a6 n6 c6, s29 = .slice a6 n6 c6 ∧ Hid (EMap wx p B (.slice a6 n6 c6) L1 ∧ Turn9 p v (.slice a6 n6 c6) w wx))
  case first =>
    go_region_with (first
      | (go_at_call 42; refine HIN.out.mono ?_; rintro e w6 ⟨a6, n6, c6, rfl, q6, f6, HK6⟩)
      | fail)
    all_goals (
      go_wp2_with fail
      go_meet
      case rel => exact ⟨_, _, _, rfl, HK6⟩)
  case rest =>
    obtain ⟨a6, n6, c6, rfl, HK6⟩ := hcut
    clear b0 b1 b2 b3 q0 HIN hl1 hl2
    have hi2 : (i : Int) ≤ 902 := by have := HCR.out.2.2.2.2; have := HCR.out.2.2.1; have := HG.out.2.1; omega
    have hin0 : (0 : Int) ≤ (i : Int) := by omega
    have HJ1 : Hid (Calls Try.prog 43 #[.pointer (some ⟨p, 0, none⟩), .int .i64 (i : Int)] wc fun e w' => e = .returned (.tuple #[]) ∧ ∃ v', EMap w' p B v' (joinAt i L1) ∧ Turn9 p v v' w w') :=
      (ejoin_any p B i _ L1 wc HK6.out.1 (by have := HL1.out.2.2; omega) (by omega) HL1.out.2.1).mono fun e w8 ⟨h1, v8, hm8, ht8⟩ => ⟨h1, v8, hm8, HK6.out.2.trans ht8⟩
    have HJ2 : Hid (∀ (u : Value) (W9 : World), EMap W9 p B u (joinAt i L1) → Turn9 p v u w W9 → Calls Try.prog 43 #[.pointer (some ⟨p, 0, none⟩), .int .i64 ((i : Int) - 1)] W9 fun e w' => e = .returned (.tuple #[]) ∧ ∃ v', EMap w' p B v' (putB ps ⟨xo, xl, xg, xp⟩) ∧ Turn9 p v v' w w') := fun u W9 h9 t9 => by
      have h1 := HPI.out
      by_cases hi0 : i = 0
      · rw [if_pos hi0, ← HL1.out.1] at h1
        refine (ejoin_neg p B _ _ (joinAt i L1) W9 h9 (by omega)).mono ?_
        rintro e w9 ⟨rfl, hb9⟩
        refine ⟨rfl, u, ?_, t9.trans (turn9_below hb9)⟩
        rw [← h1, ← hi0]
        exact h9.below hb9
      · rw [if_neg hi0, ← HL1.out.1] at h1
        rw [show (i : Int) - 1 = ((i - 1 : Nat) : Int) by omega, ← h1]
        refine (ejoin_any p B (i - 1) u _ W9 h9 (by have := (joinAt_fits (i := i) HL1.out.2.1).2; have := HL1.out.2.2; omega) (by omega) (joinAt_fits HL1.out.2.1).1).mono ?_
        rintro e w9 ⟨rfl, v9, hm9, ht9⟩
        exact ⟨rfl, v9, hm9, t9.trans ht9⟩
    clear HMAY HX HCR HPI HG HL1 HL2 HW HB1 HT2 HT3 HK6 HM
    go_wp2_with fail
    go_at_call 43
    refine HJ1.out.mono ?_
    rintro e w8 ⟨rfl, v8, hm8, ht8⟩
    have HM8 : Hid (EMap w8 p B v8 (joinAt i L1) ∧ Turn9 p v v8 w w8) := ⟨hm8, ht8⟩
    clear HJ1 hm8 ht8
    go_wp2_with fail
    go_at_call 43
    refine (HJ2.out v8 w8 HM8.out.1 HM8.out.2).mono ?_
    rintro e w9 ⟨rfl, v9, hm9, ht9⟩
    go_wp2_with fail
    go_ret
    exact ⟨rfl, v9, hm9, ht9⟩
end Go.Proofs.Ythdmclhccbjgoaa
