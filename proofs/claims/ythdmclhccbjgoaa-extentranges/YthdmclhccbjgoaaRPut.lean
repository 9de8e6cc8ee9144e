/- dolmenref9.Map.Put. -/
import Derived.Test.YthdmclhccbjgoaaRCutM
import Derived.Test.YthdmclhccbjgoaaKitStE
import Derived.Test.YthdmclhccbjgoaaMExt5
import Derived.Deep.RegionLaw
namespace Go.Proofs.Ythdmclhccbjgoaa
open Go.RowKit Kit
set_option linter.unusedVariables false

def Put9 (p : Pc) : Prop := 0 ≤ p.off ∧ 0 ≤ p.page ∧ 0 ≤ p.pos ∧ 1 ≤ p.len ∧ p.off ≤ 1073741824 ∧ p.len ≤ 1073741824 ∧ p.page ≤ 1073741824 ∧ p.pos ≤ 1073741824
theorem put9_fit {p : Pc} (h : Put9 p) : Fit p := by unfold Put9 at h; unfold Fit; omega
set_option maxRecDepth 4000 in
set_option maxHeartbeats 4000000 in
theorem rput_bad (q : Nat) (po pl pg pp : Int) (w : World) (h : ¬ Put9 (⟨po, pl, pg, pp⟩ : Pc)) :
    Calls Try.prog 29 #[.pointer (some ⟨q, 0, none⟩), .agg #[.int .i64 po, .int .i64 pl, .int .i64 pg, .int .i64 pp]] w fun e w' => e = .returned (.int .i64 12) ∧ Below w.heap.size w w' := by
  have h : ¬ (0 ≤ po ∧ 0 ≤ pg ∧ 0 ≤ pp ∧ 1 ≤ pl ∧ po ≤ 1073741824 ∧ pl ≤ 1073741824 ∧ pg ≤ 1073741824 ∧ pp ≤ 1073741824) := h
  by_cases h0 : po < 0
  · clear h
    go_enter Try.func29, Try.ntmps29
    go_wp2
    go_ret
    exact ⟨rfl, bel_newG _ _⟩
  by_cases h1 : pg < 0
  · clear h
    go_enter Try.func29, Try.ntmps29
    go_wp2
    go_ret
    exact ⟨rfl, bel_newG _ _⟩
  by_cases h2 : pp < 0
  · clear h
    go_enter Try.func29, Try.ntmps29
    go_wp2
    go_ret
    exact ⟨rfl, bel_newG _ _⟩
  by_cases h3 : pl < 1
  · clear h
    go_enter Try.func29, Try.ntmps29
    go_wp2
    go_ret
    exact ⟨rfl, bel_newG _ _⟩
  by_cases h4 : 1073741824 < po
  · clear h
    go_enter Try.func29, Try.ntmps29
    go_wp2
    go_ret
    exact ⟨rfl, bel_newG _ _⟩
  by_cases h5 : 1073741824 < pl
  · clear h
    go_enter Try.func29, Try.ntmps29
    go_wp2
    go_ret
    exact ⟨rfl, bel_newG _ _⟩
  by_cases h6 : 1073741824 < pg
  · clear h
    go_enter Try.func29, Try.ntmps29
    go_wp2
    go_ret
    exact ⟨rfl, bel_newG _ _⟩
  by_cases h7 : 1073741824 < pp
  · clear h
    go_enter Try.func29, Try.ntmps29
    go_wp2
    go_ret
    exact ⟨rfl, bel_newG _ _⟩
  exact absurd (by omega) h
theorem app_first {W w' : World} {t : TypeId} {n c : Nat} (hg : ((W.alloc (.cells #[] t)).drew).grownBy w' (Value.slice (some ⟨W.heap.size, 0, none⟩) n c).ownBlock) : Below W.heap.size W w' := by
  have hb : Below W.heap.size W (W.alloc (.cells #[] t)).drew := (bel_newG _ _).drew
  exact ⟨hg.os.trans hb.os, hg.tape.trans hb.tape, hg.output.trans hb.output, Nat.le_trans hb.size hg.size, fun k hk => by
    have h2 := hb.size
    rw [hg.block k (by omega) (fun e => by simp [Value.ownBlock] at e; omega), hb.block k hk]⟩
theorem seesE_blk {α : Type} (E : Enc α) {w : World} {e : TypeId} {x : α} {H : Nat} (h : w.heap[H]? = some (.cells (E.c x).toArray e)) : SeesE E w (.slice (some ⟨H, 0, none⟩) 1 1) [x] := by
  refine ⟨_, 1, rfl, Nat.le_refl _, by unfold maxLen; omega, by simp, fun _ => ⟨_, 0, rfl, blk_lt h, fun j u hu => ?_⟩⟩
  rw [E.flat_sing] at hu
  rw [Nat.zero_add]
  simp only [World.cell?, h]
  rw [← hu]
  simp
theorem drop_nil9 (w : World) (ao : Option Addr) (h : ao = none → (0 : Nat) = 0) : SeesE pcE w (.slice ao 0 0) [] := ⟨ao, 0, rfl, Nat.le_refl _, Nat.zero_le _, fun _ => rfl, fun h => absurd h (by simp)⟩
set_option maxRecDepth 4000 in
set_option maxHeartbeats 8000000 in
theorem rput_good (q : Nat) (po pl pg pp : Int) (ps : List Pc) (w : World) (hm : RMap w q ps) (hl : ps.length ≤ 900) (hg : Good9 ps) (hp : Put9 (⟨po, pl, pg, pp⟩ : Pc)) :
    Calls Try.prog 29 #[.pointer (some ⟨q, 0, none⟩), .agg #[.int .i64 po, .int .i64 pl, .int .i64 pg, .int .i64 pp]] w fun e w' => e = .returned (.int .i64 0) ∧ RMap w' q (putB ps (⟨po, pl, pg, pp⟩ : Pc)) ∧ Turn1 q w w' := by
  have HF : Hid (Fit (⟨po, pl, pg, pp⟩ : Pc)) := put9_fit hp
  obtain ⟨p0, p1, p2, p3, p4, p5, p6, p7⟩ := hp
  simp only at p0 p1 p2 p3 p4 p5 p6 p7
  obtain ⟨v0, hq0, hs0⟩ := id hm
  have HqL : Hid (q < w.heap.size) := blk_lt hq0
  have hbx : (w.alloc (.cells #[.int .i64 po, .int .i64 pl, .int .i64 pg, .int .i64 pp] 32)).heap[w.heap.size]? = some (.cells #[.int .i64 po, .int .i64 pl, .int .i64 pg, .int .i64 pp] 32) := (MapKept.heap_alloc w _).1
  obtain ⟨w0, hw0⟩ : ∃ z, z = w.alloc (.cells #[.int .i64 po, .int .i64 pl, .int .i64 pg, .int .i64 pp] 32) := ⟨_, rfl⟩
  rw [← hw0] at hbx
  have H0 : Hid (Below w.heap.size w w0 ∧ w0.heap[w.heap.size]? = some (.cells #[.int .i64 po, .int .i64 pl, .int .i64 pg, .int .i64 pp] 32) ∧ w0.heap.size = w.heap.size + 1) := ⟨by rw [hw0]; exact bel_newG _ _, hbx, by rw [hw0]; simp⟩
  have b0 : w0.cell? ⟨w.heap.size, 0, none⟩ = some (.int .i64 po) := blk_cell hbx rfl
  have b1 : w0.cell? ⟨w.heap.size, 1, none⟩ = some (.int .i64 pl) := blk_cell hbx rfl
  have b2 : w0.cell? ⟨w.heap.size, 2, none⟩ = some (.int .i64 pg) := blk_cell hbx rfl
  have b3 : w0.cell? ⟨w.heap.size, 3, none⟩ = some (.int .i64 pp) := blk_cell hbx rfl
  have hm0 : RMap w0 q ps := ⟨v0, blk_below H0.out.1 hq0, hs0.below H0.out.1⟩
  have HC : Hid (Calls Try.prog 45 _ w0 _) := rclear_any q po (po + pl) ps w0 hm0 (by omega) hg.can.1 hg.fits p0 (by omega) (by omega)
  obtain ⟨c, hc⟩ : ∃ z, z = clearB po (po + pl) ps := ⟨_, rfl⟩
  have HL : Hid (c.length ≤ 901 ∧ Fits c) := by
    rw [hc]
    exact ⟨by have := clear_len (a := po) (b := po + pl) (by omega) hg.can.1; omega, fits_clear hg.fits⟩
  have HE : Hid (putB ps (⟨po, pl, pg, pp⟩ : Pc) = joinB (c.take (aheadB po c) ++ (⟨po, pl, pg, pp⟩ : Pc) :: c.drop (aheadB po c))) := by show _ = _; unfold putB; rw [hc]
  rw [← hc] at HC
  have HJL : Hid (∀ (k : Nat) (L : List Pc), L = c.take k ++ [(⟨po, pl, pg, pp⟩ : Pc)] ++ c.drop k → L.length ≤ 1000 ∧ Fits L) := fun k L h => by
    rw [h]
    refine ⟨by simp; have := HL.out.1; omega, ?_⟩
    rw [← List.append_cons]
    exact fits_mid HL.out.2 HF.out k
  clear hbx hm hq0 hs0 hm0 hg hc hl
  go_enter Try.func29, Try.ntmps29
  go_wp2_with fail
  go_at_call 45
  rw [← hw0]
  clear hw0 b0 b1 b2 b3
  refine HC.out.mono ?_
  rintro e w1 ⟨rfl, v1, hq1, hr1, ht1⟩
  obtain ⟨av, cv, hv⟩ := hr1.sees.form
  obtain ⟨n1, hn1⟩ : ∃ z, z = c.length := ⟨_, rfl⟩
  rw [← hn1] at hv
  subst hv
  have HN : Hid (n1 = c.length) := hn1
  clear hn1
  have H1 : Hid (w1.heap[q]? = some (.cells #[.slice av n1 cv] 29) ∧ Turn1 q w w1 ∧ RowE pcE w1 w0.heap.size 32 (.slice av n1 cv) c ∧ w1.heap[w.heap.size]? = some (.cells #[.int .i64 po, .int .i64 pl, .int .i64 pg, .int .i64 pp] 32)) := ⟨hq1, (turn1_below H0.out.1).trans ht1, hr1, blk_turn ht1 H0.out.2.1 (by have := HqL.out; omega)⟩
  have hnl : (n1 : Int) ≤ 901 := by have := HN.out; have := HL.out.1; omega
  clear hq1 hr1 ht1 HC
  go_wp2_with fail
  go_loopw [5] (fun s5 wr => ∃ k : Nat, k ≤ aheadB po c ∧ k ≤ n1 ∧ s5 = .int .i64 (k : Int) ∧ Hid (Below w1.heap.size w1 wr)) (fun s5 _ => n1 - (intOf s5).toNat)
  case atStart => exact ⟨0, Nat.zero_le _, Nat.zero_le _, rfl, Below.refl _ _⟩
  case round =>
    obtain ⟨k, hk, hkn, rfl, HW⟩ := hrel
    have q0 : wr.cell? ⟨q, 0, none⟩ = some (.slice av n1 cv) := blk_cell (blk_below HW.out H1.out.1) rfl
    have hbx := blk_below HW.out H1.out.2.2.2
    have b0 : wr.cell? ⟨w.heap.size, 0, none⟩ = some (.int .i64 po) := blk_cell hbx rfl
    have b1 : wr.cell? ⟨w.heap.size, 1, none⟩ = some (.int .i64 pl) := blk_cell hbx rfl
    have b2 : wr.cell? ⟨w.heap.size, 2, none⟩ = some (.int .i64 pg) := blk_cell hbx rfl
    have b3 : wr.cell? ⟨w.heap.size, 3, none⟩ = some (.int .i64 pp) := blk_cell hbx rfl
    clear hbx
    have hk0 : (0 : Int) ≤ (k : Int) := by omega
    by_cases hlt : k < n1
    · have hlti : (k : Int) < (n1 : Int) := by omega
      have hkc : k < c.length := by have := HN.out; omega
      obtain ⟨B, off, e, hnn, hB, hcc⟩ := pc_cells (H1.out.2.2.1.sees.below HW.out) (by omega)
      have c0 := (hcc k hkc).1
      clear hnn
      obtain ⟨x, hx⟩ : ∃ x, x = c[k].off := ⟨_, rfl⟩
      have HX : Hid (x = c[k].off) := hx
      rw [← hx] at c0
      clear hcc hx
      subst e
      by_cases h1 : x < po
      · have HK : Hid (k + 1 ≤ aheadB po c) := ahead_more po c k hkc hk (by rw [← HX.out]; exact h1)
        go_wp2
        go_quiet (fail)
        go_wp2
        go_roundw
        case rel => exact ⟨k + 1, HK.out, by omega, by go_num, bel_tr HW.out (bel_drewN9 _ _)⟩
        case measure => simp [intOf]; omega
      · have HK : Hid (aheadB po c = k) := ahead_here po c k hkc hk (by rw [← HX.out]; exact h1)
        go_wp2
        go_quiet (fail)
        obtain ⟨wq, hwq⟩ : ∃ z, z = wr.drewN nq := ⟨_, rfl⟩
        have HWq : Hid (Below w1.heap.size w1 wq) := by rw [hwq]; exact bel_tr HW.out (bel_drewN9 _ _)
        have q1 : wq.cell? ⟨q, 0, none⟩ = some (.slice (some ⟨B, off, none⟩) n1 cv) := by rw [hwq]; exact q0
        have d0 : wq.cell? ⟨w.heap.size, 0, none⟩ = some (.int .i64 po) := by rw [hwq]; exact b0
        have d1 : wq.cell? ⟨w.heap.size, 1, none⟩ = some (.int .i64 pl) := by rw [hwq]; exact b1
        have d2 : wq.cell? ⟨w.heap.size, 2, none⟩ = some (.int .i64 pg) := by rw [hwq]; exact b2
        have d3 : wq.cell? ⟨w.heap.size, 3, none⟩ = some (.int .i64 pp) := by rw [hwq]; exact b3
        have dl : w.heap.size < wq.heap.size := by rw [hwq]; exact cell_lt9 b0
        have dq : q < wq.heap.size := by rw [hwq]; exact cell_lt9 q0
        have hcv : n1 ≤ cv := by
          obtain ⟨_, _, e, h2, _⟩ := H1.out.2.2.1.sees
          injection e with e1 e2 e3
          omega
        have hcvi : (k : Int) ≤ (cv : Int) := by omega
        have HB0 : Hid (w0.heap.size ≤ wq.heap.size) := by
          have h1 := blk_lt H1.out.2.2.2
          have h2 := H0.out.2.2
          have h3 := HWq.out.size
          show _ ≤ _
          omega
        have HO1 : Hid (RowE pcE (wq.alloc (.cells #[] 32)).drew wq.heap.size 32 (.slice (some ⟨wq.heap.size, 0, none⟩) 0 0) []) := rowE_empty pcE wq 32 wq.heap.size _ rfl (Nat.le_refl _)
        have HS1 : Hid (SeesE pcE (wq.alloc (.cells #[] 32)).drew (.slice (some ⟨B, off, none⟩) k cv) (c.take k)) := ((H1.out.2.2.1.sees.below HWq.out).take k (by omega)).below ((bel_newG _ _).drew)
        have HL1 : Hid (([] : List Pc).length + (c.take k).length ≤ maxLen ∧ (([] : List Pc).length + (c.take k).length) * 32 ≤ 140737488355328 ∧ wq.heap.size ≤ (wq.alloc (.cells #[] 32)).drew.heap.size) := by
          have h1 := HL.out.1
          exact ⟨by simp; unfold maxLen; omega, by simp; omega, ((bel_newG wq _).drew).size⟩
        have HU2 : Hid (Below wq.heap.size wq ((wq.alloc (.cells #[] 32)).alloc (.cells #[.int .i64 po, .int .i64 pl, .int .i64 pg, .int .i64 pp] 32)).drew) := (bel_tr (bel_newG _ _) (bel_newG _ _)).drew
        have HO2 : Hid (RowE pcE ((wq.alloc (.cells #[] 32)).alloc (.cells #[.int .i64 po, .int .i64 pl, .int .i64 pg, .int .i64 pp] 32)).drew wq.heap.size 32 (.slice (some ⟨wq.heap.size, 0, none⟩) 0 0) []) := RowE.below (w := wq.alloc (.cells #[] 32)) (rowE_empty pcE wq 32 wq.heap.size _ rfl (Nat.le_refl _)) ((bel_newG _ _).drew)
        have HS2 : Hid (SeesE pcE ((wq.alloc (.cells #[] 32)).alloc (.cells #[.int .i64 po, .int .i64 pl, .int .i64 pg, .int .i64 pp] 32)).drew (.slice (some ⟨B, off, none⟩) k cv) (c.take k)) := ((H1.out.2.2.1.sees.below HWq.out).take k (by omega)).below HU2.out
        have HT2 : Hid (((wq.alloc (.cells #[] 32)).alloc (.cells #[.int .i64 po, .int .i64 pl, .int .i64 pg, .int .i64 pp] 32)).drew.heap[wq.heap.size + 1]? = some (.cells #[.int .i64 po, .int .i64 pl, .int .i64 pg, .int .i64 pp] 32)) := by
          have h1 := (MapKept.heap_alloc (wq.alloc (.cells #[] 32)) (.cells #[.int .i64 po, .int .i64 pl, .int .i64 pg, .int .i64 pp] 32)).1
          have hs : (wq.alloc (.cells #[] 32)).heap.size = wq.heap.size + 1 := by simp
          rw [hs] at h1
          exact h1
        have HU3 : Hid (Below wq.heap.size wq ((wq.alloc (.cells #[.int .i64 po, .int .i64 pl, .int .i64 pg, .int .i64 pp] 32)).alloc (.cells #[] 32)).drew) := (bel_tr (bel_newG _ _) (bel_newG _ _)).drew
        have HO3 : Hid (RowE pcE ((wq.alloc (.cells #[.int .i64 po, .int .i64 pl, .int .i64 pg, .int .i64 pp] 32)).alloc (.cells #[] 32)).drew wq.heap.size 32 (.slice (some ⟨wq.heap.size + 1, 0, none⟩) 0 0) []) := rowE_empty pcE (wq.alloc (.cells #[.int .i64 po, .int .i64 pl, .int .i64 pg, .int .i64 pp] 32)) 32 wq.heap.size _ (by simp) (by simp)
        have HS3 : Hid (SeesE pcE ((wq.alloc (.cells #[.int .i64 po, .int .i64 pl, .int .i64 pg, .int .i64 pp] 32)).alloc (.cells #[] 32)).drew (.slice (some ⟨B, off, none⟩) k cv) (c.take k)) := ((H1.out.2.2.1.sees.below HWq.out).take k (by omega)).below HU3.out
        have HT3 : Hid (((wq.alloc (.cells #[.int .i64 po, .int .i64 pl, .int .i64 pg, .int .i64 pp] 32)).alloc (.cells #[] 32)).drew.heap[wq.heap.size]? = some (.cells #[.int .i64 po, .int .i64 pl, .int .i64 pg, .int .i64 pp] 32)) := blk_below (w := wq.alloc (.cells #[.int .i64 po, .int .i64 pl, .int .i64 pg, .int .i64 pp] 32)) ((bel_newG _ _).drew) (MapKept.heap_alloc wq _).1
        have HL4 : Hid ((c.take k).length + [(⟨po, pl, pg, pp⟩ : Pc)].length ≤ maxLen ∧ ((c.take k).length + [(⟨po, pl, pg, pp⟩ : Pc)].length) * 32 ≤ 140737488355328) := by
          have h1 := HL.out.1
          exact ⟨by simp; unfold maxLen; omega, by simp; omega⟩
        have HTK : Hid (k = (([] : List Pc) ++ c.take k).length) := by show _ = _; simp; omega
        obtain ⟨n4, hn4⟩ : ∃ z, z = (c.take k ++ [(⟨po, pl, pg, pp⟩ : Pc)]).length := ⟨_, rfl⟩
        have HN4 : Hid (n4 = _) := hn4
        clear hn4
        rw [← hwq]
        clear hwq q0 b0 b1 b2 b3 c0
        go_upto_region 7 with fail
        go_cut [6] from 76 to 86 (fun s6 wx => ∃ a4 c4, s6 = .slice a4 n4 c4 ∧ Hid (RowE pcE wx wq.heap.size 32 (.slice a4 n4 c4) (c.take k ++ [(⟨po, pl, pg, pp⟩ : Pc)]) ∧ Below wq.heap.size wq wx))
        case first =>
          go_region_law (first
            | (refine step_appE (E := pcE) Try.underlying27 infoPc rfl (by rfl) (.tmp 76) (.tmp 82) (by rfl) wq.heap.size (.slice (some ⟨wq.heap.size, 0, none⟩) 0 0) [] (by rfl) HO1.out (.slice (some ⟨B, off, none⟩) k cv) (c.take k) (by rfl) HS1.out HL1.out.1 HL1.out.2.1 HL1.out.2.2 ?_; intro v3 w3 k1 k2; have HB3 : Hid (Below wq.heap.size wq w3) := app_first k2; obtain ⟨a3, c3, hv3⟩ := k1.sees.form; rw [← HTK.out] at hv3; subst hv3; have HR30 : Hid (RowE pcE w3 wq.heap.size 32 (.slice a3 k c3) (c.take k)) := k1; have HR3 : Hid (RowE pcE (w3.alloc (.cells #[.int .i64 po, .int .i64 pl, .int .i64 pg, .int .i64 pp] 32)) wq.heap.size 32 (.slice a3 k c3) (c.take k)) := k1.below (bel_newG _ _); have HS3 : Hid (SeesE pcE (w3.alloc (.cells #[.int .i64 po, .int .i64 pl, .int .i64 pg, .int .i64 pp] 32)) (.slice (some ⟨w3.heap.size, 0, none⟩) 1 1) [(⟨po, pl, pg, pp⟩ : Pc)]) := seesE_one pcE w3 32 (⟨po, pl, pg, pp⟩ : Pc) _ rfl; have HL3 : Hid ((c.take k).length + [(⟨po, pl, pg, pp⟩ : Pc)].length ≤ maxLen ∧ ((c.take k).length + [(⟨po, pl, pg, pp⟩ : Pc)].length) * 32 ≤ 140737488355328 ∧ wq.heap.size ≤ (w3.alloc (.cells #[.int .i64 po, .int .i64 pl, .int .i64 pg, .int .i64 pp] 32)).heap.size) := (by have h1 := HL.out.1; have h3 := HB3.out.size; exact ⟨by simp; unfold maxLen; omega, by simp; omega, by simp; omega⟩); have e0 : w3.cell? ⟨w.heap.size, 0, none⟩ = some (.int .i64 po) := (HB3.out.cell (by exact dl)).trans d0; have e1 : w3.cell? ⟨w.heap.size, 1, none⟩ = some (.int .i64 pl) := (HB3.out.cell (by exact dl)).trans d1; have e2 : w3.cell? ⟨w.heap.size, 2, none⟩ = some (.int .i64 pg) := (HB3.out.cell (by exact dl)).trans d2; have e3 : w3.cell? ⟨w.heap.size, 3, none⟩ = some (.int .i64 pp) := (HB3.out.cell (by exact dl)).trans d3; have el : w.heap.size < w3.heap.size := Nat.lt_of_lt_of_le dl HB3.out.size; clear k1 k2)
            | (refine step_appE (E := pcE) Try.underlying27 infoPc rfl (by rfl) (.tmp 83) (.tmp 85) (by rfl) wq.heap.size (.slice a3 k c3) (c.take k) (by rfl) HR3.out (.slice (some ⟨w3.heap.size, 0, none⟩) 1 1) [(⟨po, pl, pg, pp⟩ : Pc)] (by rfl) HS3.out HL3.out.1 HL3.out.2.1 HL3.out.2.2 ?_; intro v4 w4 k1 k2; have HB4 : Hid (Below wq.heap.size wq w4) := (row_kept HR30.out (bel_newG w3 _) k2).2 HB3.out HB3.out.size; obtain ⟨a4, c4, hv4⟩ := k1.sees.form; rw [← HN4.out] at hv4; subst hv4; have HK4 : Hid (RowE pcE w4 wq.heap.size 32 _ (c.take k ++ [(⟨po, pl, pg, pp⟩ : Pc)])) := k1; clear k1 k2)
            | (refine step_appE (E := pcE) Try.underlying27 infoPc rfl (by rfl) (.tmp 76) (.tmp 82) (by rfl) wq.heap.size (.slice (some ⟨wq.heap.size, 0, none⟩) 0 0) [] (by rfl) HO2.out (.slice (some ⟨B, off, none⟩) k cv) (c.take k) (by rfl) HS2.out HL1.out.1 HL1.out.2.1 HU2.out.size ?_; intro v3 w3 k1 k2; have HB23 : Hid (Below wq.heap.size wq w3) := (row_kept HO2.out (Below.refl _ _) k2).2 HU2.out HU2.out.size; have HZ2 : Hid (SeesE pcE w3 (.slice (some ⟨wq.heap.size + 1, 0, none⟩) 1 1) [(⟨po, pl, pg, pp⟩ : Pc)]) := seesE_blk pcE ((k2.block _ (blk_lt HT2.out) (by simp [Value.ownBlock])).trans HT2.out); obtain ⟨a3, c3, hv3⟩ := k1.sees.form; rw [← HTK.out] at hv3; subst hv3; have HR23 : Hid (RowE pcE w3 wq.heap.size 32 (.slice a3 k c3) (c.take k)) := k1; clear k1 k2)
            | (refine step_appE (E := pcE) Try.underlying27 infoPc rfl (by rfl) (.tmp 83) (.tmp 85) (by rfl) wq.heap.size (.slice a3 k c3) (c.take k) (by rfl) HR23.out (.slice (some ⟨wq.heap.size + 1, 0, none⟩) 1 1) [(⟨po, pl, pg, pp⟩ : Pc)] (by rfl) HZ2.out HL4.out.1 HL4.out.2 HB23.out.size ?_; intro v4 w4 k1 k2; have HB4 : Hid (Below wq.heap.size wq w4) := (row_kept HR23.out (Below.refl _ _) k2).2 HB23.out HB23.out.size; obtain ⟨a4, c4, hv4⟩ := k1.sees.form; rw [← HN4.out] at hv4; subst hv4; have HK4 : Hid (RowE pcE w4 wq.heap.size 32 _ (c.take k ++ [(⟨po, pl, pg, pp⟩ : Pc)])) := k1; clear k1 k2)
            | (refine step_appE (E := pcE) Try.underlying27 infoPc rfl (by rfl) (.tmp 76) (.tmp 82) (by rfl) wq.heap.size (.slice (some ⟨wq.heap.size + 1, 0, none⟩) 0 0) [] (by rfl) HO3.out (.slice (some ⟨B, off, none⟩) k cv) (c.take k) (by rfl) HS3.out HL1.out.1 HL1.out.2.1 HU3.out.size ?_; intro v3 w3 k1 k2; have HB33 : Hid (Below wq.heap.size wq w3) := (row_kept HO3.out (Below.refl _ _) k2).2 HU3.out HU3.out.size; have HZ3 : Hid (SeesE pcE w3 (.slice (some ⟨wq.heap.size, 0, none⟩) 1 1) [(⟨po, pl, pg, pp⟩ : Pc)]) := seesE_blk pcE ((k2.block _ (blk_lt HT3.out) (by simp [Value.ownBlock])).trans HT3.out); obtain ⟨a3, c3, hv3⟩ := k1.sees.form; rw [← HTK.out] at hv3; subst hv3; have HR33 : Hid (RowE pcE w3 wq.heap.size 32 (.slice a3 k c3) (c.take k)) := k1; clear k1 k2)
            | (refine step_appE (E := pcE) Try.underlying27 infoPc rfl (by rfl) (.tmp 83) (.tmp 85) (by rfl) wq.heap.size (.slice a3 k c3) (c.take k) (by rfl) HR33.out (.slice (some ⟨wq.heap.size, 0, none⟩) 1 1) [(⟨po, pl, pg, pp⟩ : Pc)] (by rfl) HZ3.out HL4.out.1 HL4.out.2 HB33.out.size ?_; intro v4 w4 k1 k2; have HB4 : Hid (Below wq.heap.size wq w4) := (row_kept HR33.out (Below.refl _ _) k2).2 HB33.out HB33.out.size; obtain ⟨a4, c4, hv4⟩ := k1.sees.form; rw [← HN4.out] at hv4; subst hv4; have HK4 : Hid (RowE pcE w4 wq.heap.size 32 _ (c.take k ++ [(⟨po, pl, pg, pp⟩ : Pc)])) := k1; clear k1 k2))
          all_goals (
            go_wp2_with fail
            go_meet
            case rel => exact ⟨_, _, rfl, ⟨HK4.out, HB4.out⟩⟩)
        case rest =>
          obtain ⟨a4, c4, rfl, HC4⟩ := hcut
          have q2 : wc.cell? ⟨q, 0, none⟩ = some (.slice (some ⟨B, off, none⟩) n1 cv) := (HC4.out.2.cell (by exact dq)).trans q1
          have hk1 : (k : Int) ≤ (n1 : Int) := by omega
          clear q1 d0 d1 d2 d3 dl HO1 HS1 HL1 HO2 HS2 HT2 HO3 HS3 HT3 HU2 HU3 HL4 HTK
          have hkc2 : k < cv := by omega
          have hkci : (k : Int) < (cv : Int) := by omega
          have HSD : Hid (SeesE pcE wc (.slice (some ⟨B, off + k * 4, none⟩) (n1 - k) (cv - k)) (c.drop k)) := ((H1.out.2.2.1.sees.below HWq.out).below HC4.out.2).drop k (by omega)
          have HLD : Hid ((c.take k ++ [(⟨po, pl, pg, pp⟩ : Pc)]).length + (c.drop k).length ≤ maxLen ∧ ((c.take k ++ [(⟨po, pl, pg, pp⟩ : Pc)]).length + (c.drop k).length) * 32 ≤ 140737488355328 ∧ wq.heap.size ≤ wc.heap.size) := by
            have h1 := HL.out.1
            exact ⟨by simp; unfold maxLen; omega, by simp; omega, HC4.out.2.size⟩
          obtain ⟨L, hL⟩ : ∃ z, z = c.take k ++ [(⟨po, pl, pg, pp⟩ : Pc)] ++ c.drop k := ⟨_, rfl⟩
          have HLL : Hid (L = _) := hL
          clear hL
          obtain ⟨n5, hn5⟩ : ∃ z, z = L.length := ⟨_, rfl⟩
          have HN5 : Hid (n5 = _) := hn5
          clear hn5
          go_upto_region 8 with fail
          go_wp2_with (first
            | (at_builtin; refine wpList_appE (E := pcE) Try.underlying27 infoPc rfl rfl _ _ rfl wq.heap.size _ (c.take k ++ [(⟨po, pl, pg, pp⟩ : Pc)]) rfl HC4.out.1 _ (c.drop k) rfl HSD.out HLD.out.1 HLD.out.2.1 HLD.out.2.2 ?_; intro v5 w5 k1 k2; rw [← HLL.out] at k1; have HB5 : Hid (Below wq.heap.size wq w5) := (row_kept HC4.out.1 (Below.refl _ _) k2).2 HC4.out.2 HC4.out.2.size; obtain ⟨a5, c5, hv5⟩ := k1.sees.form; rw [← HN5.out] at hv5; subst hv5; have HK5 : Hid (RowE pcE w5 wq.heap.size 32 (.slice a5 n5 c5) L) := k1; clear k1 k2)
            | (go_at_call 46; refine (rjoined_any L _ w5 HK5.out.sees (HJL.out _ _ HLL.out).1 (HJL.out _ _ HLL.out).2).mono ?_; rintro e w6 ⟨v6, rfl, hr6, hb6⟩; have H6 : Hid (RowE pcE w6 w5.heap.size 32 v6 (joinB L) ∧ Below wq.heap.size wq w6) := ⟨hr6, bel_tr HB5.out hb6⟩; have q6 : w6.cell? ⟨q, 0, none⟩ = some (.slice (some ⟨B, off, none⟩) n1 cv) := (H6.out.2.cell (by exact dq)).trans ((HWq.out.cell (by exact blk_lt H1.out.1)).trans (blk_cell H1.out.1 rfl)); have qf6 : w6.frozen? ⟨q, 0, none⟩ = false := blk_frozen (blk_below H6.out.2 (blk_below HWq.out H1.out.1)) 0; have ql6 : q < w6.heap.size := cell_lt9 q6; have HQ5 : Hid (q < w5.heap.size) := Nat.lt_of_lt_of_le dq HB5.out.size; obtain ⟨a6, c6, hv6⟩ := hr6.sees.form; obtain ⟨n6, hn6⟩ : ∃ z, z = (joinB L).length := ⟨_, rfl⟩; rw [← hn6] at hv6; subst hv6; clear hr6 hb6 hn6 q2))
          go_ret
          refine ⟨rfl, ⟨_, setCell_blk (blk_below H6.out.2 (blk_below HWq.out H1.out.1)) _, ?_⟩, ((H1.out.2.1.trans (turn1_below HWq.out)).trans (turn1_below H6.out.2)).trans (turn1_set q w6 0 _)⟩
          have hz := (rowE_set H6.out.1 HQ5.out 0 (.slice a6 n6 c6)).sees
          rw [HE.out, HK.out, List.append_cons, ← HLL.out]
          exact hz
    · have hlti : ¬ (k : Int) < (n1 : Int) := by omega
      have HK : Hid (aheadB po c = k) := by
        have h1 := ahead_le po c
        have h2 := HN.out
        show _ = _
        omega
      have HDN : Hid (c.drop k = []) := by
        have := HN.out
        exact List.drop_of_length_le (by omega)
      have hav : (av = none ∧ n1 = 0 ∧ cv = 0) ∨ ∃ g, av = some ⟨g, 0, none⟩ := by
        rcases H1.out.2.2.1.2 with ⟨h1, h2⟩ | ⟨g, cap, cur, h1, _⟩
        · injection h1 with e1 e2 e3
          exact Or.inl ⟨e1, e2, e3⟩
        · injection h1 with e1 e2 e3
          exact Or.inr ⟨g, e1⟩
      rcases hav with ⟨e1, e2, e3⟩ | ⟨g, e1⟩
      · subst e1 e2 e3
        obtain rfl : k = 0 := by omega
        go_wp2
        go_quiet (fail)
        go_wp2
        obtain ⟨wq, hwq⟩ : ∃ z, z = wr.drewN nq := ⟨_, rfl⟩
        have HWq : Hid (Below w1.heap.size w1 wq) := by rw [hwq]; exact bel_tr HW.out (bel_drewN9 _ _)
        have q1 : wq.cell? ⟨q, 0, none⟩ = some (.slice (none) 0 0) := by rw [hwq]; exact q0
        have d0 : wq.cell? ⟨w.heap.size, 0, none⟩ = some (.int .i64 po) := by rw [hwq]; exact b0
        have d1 : wq.cell? ⟨w.heap.size, 1, none⟩ = some (.int .i64 pl) := by rw [hwq]; exact b1
        have d2 : wq.cell? ⟨w.heap.size, 2, none⟩ = some (.int .i64 pg) := by rw [hwq]; exact b2
        have d3 : wq.cell? ⟨w.heap.size, 3, none⟩ = some (.int .i64 pp) := by rw [hwq]; exact b3
        have dl : w.heap.size < wq.heap.size := by rw [hwq]; exact cell_lt9 b0
        have dq : q < wq.heap.size := by rw [hwq]; exact cell_lt9 q0
        have HB0 : Hid (w0.heap.size ≤ wq.heap.size) := by
          have h1 := blk_lt H1.out.2.2.2
          have h2 := H0.out.2.2
          have h3 := HWq.out.size
          show _ ≤ _
          omega
        have HO1 : Hid (RowE pcE (wq.alloc (.cells #[] 32)).drew wq.heap.size 32 (.slice (some ⟨wq.heap.size, 0, none⟩) 0 0) []) := rowE_empty pcE wq 32 wq.heap.size _ rfl (Nat.le_refl _)
        have HS1 : Hid (SeesE pcE (wq.alloc (.cells #[] 32)).drew (.slice (none) 0 0) (c.take 0)) := ((H1.out.2.2.1.sees.below HWq.out).take 0 (by have := HN.out; omega)).below ((bel_newG _ _).drew)
        have HL1 : Hid (([] : List Pc).length + (c.take 0).length ≤ maxLen ∧ (([] : List Pc).length + (c.take 0).length) * 32 ≤ 140737488355328 ∧ wq.heap.size ≤ (wq.alloc (.cells #[] 32)).drew.heap.size) := by
          have h1 := HL.out.1
          exact ⟨by first | (simp; unfold maxLen; omega) | (simp; done) | (unfold maxLen; simp), by first | (simp; omega) | (simp; done), ((bel_newG wq _).drew).size⟩
        have HU2 : Hid (Below wq.heap.size wq ((wq.alloc (.cells #[] 32)).alloc (.cells #[.int .i64 po, .int .i64 pl, .int .i64 pg, .int .i64 pp] 32)).drew) := (bel_tr (bel_newG _ _) (bel_newG _ _)).drew
        have HO2 : Hid (RowE pcE ((wq.alloc (.cells #[] 32)).alloc (.cells #[.int .i64 po, .int .i64 pl, .int .i64 pg, .int .i64 pp] 32)).drew wq.heap.size 32 (.slice (some ⟨wq.heap.size, 0, none⟩) 0 0) []) := RowE.below (w := wq.alloc (.cells #[] 32)) (rowE_empty pcE wq 32 wq.heap.size _ rfl (Nat.le_refl _)) ((bel_newG _ _).drew)
        have HS2 : Hid (SeesE pcE ((wq.alloc (.cells #[] 32)).alloc (.cells #[.int .i64 po, .int .i64 pl, .int .i64 pg, .int .i64 pp] 32)).drew (.slice (none) 0 0) (c.take 0)) := ((H1.out.2.2.1.sees.below HWq.out).take 0 (by have := HN.out; omega)).below HU2.out
        have HT2 : Hid (((wq.alloc (.cells #[] 32)).alloc (.cells #[.int .i64 po, .int .i64 pl, .int .i64 pg, .int .i64 pp] 32)).drew.heap[wq.heap.size + 1]? = some (.cells #[.int .i64 po, .int .i64 pl, .int .i64 pg, .int .i64 pp] 32)) := by
          have h1 := (MapKept.heap_alloc (wq.alloc (.cells #[] 32)) (.cells #[.int .i64 po, .int .i64 pl, .int .i64 pg, .int .i64 pp] 32)).1
          have hs : (wq.alloc (.cells #[] 32)).heap.size = wq.heap.size + 1 := by simp
          rw [hs] at h1
          exact h1
        have HU3 : Hid (Below wq.heap.size wq ((wq.alloc (.cells #[.int .i64 po, .int .i64 pl, .int .i64 pg, .int .i64 pp] 32)).alloc (.cells #[] 32)).drew) := (bel_tr (bel_newG _ _) (bel_newG _ _)).drew
        have HO3 : Hid (RowE pcE ((wq.alloc (.cells #[.int .i64 po, .int .i64 pl, .int .i64 pg, .int .i64 pp] 32)).alloc (.cells #[] 32)).drew wq.heap.size 32 (.slice (some ⟨wq.heap.size + 1, 0, none⟩) 0 0) []) := rowE_empty pcE (wq.alloc (.cells #[.int .i64 po, .int .i64 pl, .int .i64 pg, .int .i64 pp] 32)) 32 wq.heap.size _ (by simp) (by simp)
        have HS3 : Hid (SeesE pcE ((wq.alloc (.cells #[.int .i64 po, .int .i64 pl, .int .i64 pg, .int .i64 pp] 32)).alloc (.cells #[] 32)).drew (.slice (none) 0 0) (c.take 0)) := ((H1.out.2.2.1.sees.below HWq.out).take 0 (by have := HN.out; omega)).below HU3.out
        have HT3 : Hid (((wq.alloc (.cells #[.int .i64 po, .int .i64 pl, .int .i64 pg, .int .i64 pp] 32)).alloc (.cells #[] 32)).drew.heap[wq.heap.size]? = some (.cells #[.int .i64 po, .int .i64 pl, .int .i64 pg, .int .i64 pp] 32)) := blk_below (w := wq.alloc (.cells #[.int .i64 po, .int .i64 pl, .int .i64 pg, .int .i64 pp] 32)) ((bel_newG _ _).drew) (MapKept.heap_alloc wq _).1
        have HL4 : Hid ((c.take 0).length + [(⟨po, pl, pg, pp⟩ : Pc)].length ≤ maxLen ∧ ((c.take 0).length + [(⟨po, pl, pg, pp⟩ : Pc)].length) * 32 ≤ 140737488355328) := by
          have h1 := HL.out.1
          exact ⟨by first | (simp; unfold maxLen; omega) | (simp; done) | (unfold maxLen; simp), by first | (simp; omega) | (simp; done)⟩
        have HTK : Hid (0 = (([] : List Pc) ++ c.take 0).length) := by show _ = _; simp
        obtain ⟨n4, hn4⟩ : ∃ z, z = (c.take 0 ++ [(⟨po, pl, pg, pp⟩ : Pc)]).length := ⟨_, rfl⟩
        have HN4 : Hid (n4 = _) := hn4
        clear hn4
        rw [← hwq]
        clear hwq q0 b0 b1 b2 b3
        go_upto_region 7 with fail
        go_cut [6] from 76 to 86 (fun s6 wx => ∃ a4 c4, s6 = .slice a4 n4 c4 ∧ Hid (RowE pcE wx wq.heap.size 32 (.slice a4 n4 c4) (c.take 0 ++ [(⟨po, pl, pg, pp⟩ : Pc)]) ∧ Below wq.heap.size wq wx))
        case first =>
          go_region_law (first
            | (refine step_appE (E := pcE) Try.underlying27 infoPc rfl (by rfl) (.tmp 76) (.tmp 82) (by rfl) wq.heap.size (.slice (some ⟨wq.heap.size, 0, none⟩) 0 0) [] (by rfl) HO1.out (.slice (none) 0 0) (c.take 0) (by rfl) HS1.out HL1.out.1 HL1.out.2.1 HL1.out.2.2 ?_; intro v3 w3 k1 k2; have HB3 : Hid (Below wq.heap.size wq w3) := app_first k2; obtain ⟨a3, c3, hv3⟩ := k1.sees.form; rw [← HTK.out] at hv3; subst hv3; have HR30 : Hid (RowE pcE w3 wq.heap.size 32 (.slice a3 0 c3) (c.take 0)) := k1; have HR3 : Hid (RowE pcE (w3.alloc (.cells #[.int .i64 po, .int .i64 pl, .int .i64 pg, .int .i64 pp] 32)) wq.heap.size 32 (.slice a3 0 c3) (c.take 0)) := k1.below (bel_newG _ _); have HS3 : Hid (SeesE pcE (w3.alloc (.cells #[.int .i64 po, .int .i64 pl, .int .i64 pg, .int .i64 pp] 32)) (.slice (some ⟨w3.heap.size, 0, none⟩) 1 1) [(⟨po, pl, pg, pp⟩ : Pc)]) := seesE_one pcE w3 32 (⟨po, pl, pg, pp⟩ : Pc) _ rfl; have HL3 : Hid ((c.take 0).length + [(⟨po, pl, pg, pp⟩ : Pc)].length ≤ maxLen ∧ ((c.take 0).length + [(⟨po, pl, pg, pp⟩ : Pc)].length) * 32 ≤ 140737488355328 ∧ wq.heap.size ≤ (w3.alloc (.cells #[.int .i64 po, .int .i64 pl, .int .i64 pg, .int .i64 pp] 32)).heap.size) := (by have h1 := HL.out.1; have h3 := HB3.out.size; exact ⟨by first | (simp; unfold maxLen; omega) | (simp; done) | (unfold maxLen; simp), by first | (simp; omega) | (simp; done), by first | (simp; omega) | (simp; done)⟩); have e0 : w3.cell? ⟨w.heap.size, 0, none⟩ = some (.int .i64 po) := (HB3.out.cell (by exact dl)).trans d0; have e1 : w3.cell? ⟨w.heap.size, 1, none⟩ = some (.int .i64 pl) := (HB3.out.cell (by exact dl)).trans d1; have e2 : w3.cell? ⟨w.heap.size, 2, none⟩ = some (.int .i64 pg) := (HB3.out.cell (by exact dl)).trans d2; have e3 : w3.cell? ⟨w.heap.size, 3, none⟩ = some (.int .i64 pp) := (HB3.out.cell (by exact dl)).trans d3; have el : w.heap.size < w3.heap.size := Nat.lt_of_lt_of_le dl HB3.out.size; clear k1 k2)
            | (refine step_appE (E := pcE) Try.underlying27 infoPc rfl (by rfl) (.tmp 83) (.tmp 85) (by rfl) wq.heap.size (.slice a3 0 c3) (c.take 0) (by rfl) HR3.out (.slice (some ⟨w3.heap.size, 0, none⟩) 1 1) [(⟨po, pl, pg, pp⟩ : Pc)] (by rfl) HS3.out HL3.out.1 HL3.out.2.1 HL3.out.2.2 ?_; intro v4 w4 k1 k2; have HB4 : Hid (Below wq.heap.size wq w4) := (row_kept HR30.out (bel_newG w3 _) k2).2 HB3.out HB3.out.size; obtain ⟨a4, c4, hv4⟩ := k1.sees.form; rw [← HN4.out] at hv4; subst hv4; have HK4 : Hid (RowE pcE w4 wq.heap.size 32 _ (c.take 0 ++ [(⟨po, pl, pg, pp⟩ : Pc)])) := k1; clear k1 k2)
            | (refine step_appE (E := pcE) Try.underlying27 infoPc rfl (by rfl) (.tmp 76) (.tmp 82) (by rfl) wq.heap.size (.slice (some ⟨wq.heap.size, 0, none⟩) 0 0) [] (by rfl) HO2.out (.slice (none) 0 0) (c.take 0) (by rfl) HS2.out HL1.out.1 HL1.out.2.1 HU2.out.size ?_; intro v3 w3 k1 k2; have HB23 : Hid (Below wq.heap.size wq w3) := (row_kept HO2.out (Below.refl _ _) k2).2 HU2.out HU2.out.size; have HZ2 : Hid (SeesE pcE w3 (.slice (some ⟨wq.heap.size + 1, 0, none⟩) 1 1) [(⟨po, pl, pg, pp⟩ : Pc)]) := seesE_blk pcE ((k2.block _ (blk_lt HT2.out) (by simp [Value.ownBlock])).trans HT2.out); obtain ⟨a3, c3, hv3⟩ := k1.sees.form; rw [← HTK.out] at hv3; subst hv3; have HR23 : Hid (RowE pcE w3 wq.heap.size 32 (.slice a3 0 c3) (c.take 0)) := k1; clear k1 k2)
            | (refine step_appE (E := pcE) Try.underlying27 infoPc rfl (by rfl) (.tmp 83) (.tmp 85) (by rfl) wq.heap.size (.slice a3 0 c3) (c.take 0) (by rfl) HR23.out (.slice (some ⟨wq.heap.size + 1, 0, none⟩) 1 1) [(⟨po, pl, pg, pp⟩ : Pc)] (by rfl) HZ2.out HL4.out.1 HL4.out.2 HB23.out.size ?_; intro v4 w4 k1 k2; have HB4 : Hid (Below wq.heap.size wq w4) := (row_kept HR23.out (Below.refl _ _) k2).2 HB23.out HB23.out.size; obtain ⟨a4, c4, hv4⟩ := k1.sees.form; rw [← HN4.out] at hv4; subst hv4; have HK4 : Hid (RowE pcE w4 wq.heap.size 32 _ (c.take 0 ++ [(⟨po, pl, pg, pp⟩ : Pc)])) := k1; clear k1 k2)
            | (refine step_appE (E := pcE) Try.underlying27 infoPc rfl (by rfl) (.tmp 76) (.tmp 82) (by rfl) wq.heap.size (.slice (some ⟨wq.heap.size + 1, 0, none⟩) 0 0) [] (by rfl) HO3.out (.slice (none) 0 0) (c.take 0) (by rfl) HS3.out HL1.out.1 HL1.out.2.1 HU3.out.size ?_; intro v3 w3 k1 k2; have HB33 : Hid (Below wq.heap.size wq w3) := (row_kept HO3.out (Below.refl _ _) k2).2 HU3.out HU3.out.size; have HZ3 : Hid (SeesE pcE w3 (.slice (some ⟨wq.heap.size, 0, none⟩) 1 1) [(⟨po, pl, pg, pp⟩ : Pc)]) := seesE_blk pcE ((k2.block _ (blk_lt HT3.out) (by simp [Value.ownBlock])).trans HT3.out); obtain ⟨a3, c3, hv3⟩ := k1.sees.form; rw [← HTK.out] at hv3; subst hv3; have HR33 : Hid (RowE pcE w3 wq.heap.size 32 (.slice a3 0 c3) (c.take 0)) := k1; clear k1 k2)
            | (refine step_appE (E := pcE) Try.underlying27 infoPc rfl (by rfl) (.tmp 83) (.tmp 85) (by rfl) wq.heap.size (.slice a3 0 c3) (c.take 0) (by rfl) HR33.out (.slice (some ⟨wq.heap.size, 0, none⟩) 1 1) [(⟨po, pl, pg, pp⟩ : Pc)] (by rfl) HZ3.out HL4.out.1 HL4.out.2 HB33.out.size ?_; intro v4 w4 k1 k2; have HB4 : Hid (Below wq.heap.size wq w4) := (row_kept HR33.out (Below.refl _ _) k2).2 HB33.out HB33.out.size; obtain ⟨a4, c4, hv4⟩ := k1.sees.form; rw [← HN4.out] at hv4; subst hv4; have HK4 : Hid (RowE pcE w4 wq.heap.size 32 _ (c.take 0 ++ [(⟨po, pl, pg, pp⟩ : Pc)])) := k1; clear k1 k2))
          all_goals (
            go_wp2_with fail
            go_meet
            case rel => exact ⟨_, _, rfl, ⟨HK4.out, HB4.out⟩⟩)
        case rest =>
          obtain ⟨a4, c4, rfl, HC4⟩ := hcut
          have q2 : wc.cell? ⟨q, 0, none⟩ = some (.slice (none) 0 0) := (HC4.out.2.cell (by exact dq)).trans q1
          clear q1 d0 d1 d2 d3 dl HO1 HS1 HL1 HO2 HS2 HT2 HO3 HS3 HT3 HU2 HU3 HL4 HTK
          have HSD : Hid (SeesE pcE wc (.slice none 0 0) (c.drop 0)) := by rw [HDN.out]; exact seesE_nil pcE wc
          have HLD : Hid ((c.take 0 ++ [(⟨po, pl, pg, pp⟩ : Pc)]).length + (c.drop 0).length ≤ maxLen ∧ ((c.take 0 ++ [(⟨po, pl, pg, pp⟩ : Pc)]).length + (c.drop 0).length) * 32 ≤ 140737488355328 ∧ wq.heap.size ≤ wc.heap.size) := by
            have h1 := HL.out.1
            exact ⟨by first | (simp; unfold maxLen; omega) | (simp; done) | (unfold maxLen; simp), by first | (simp; omega) | (simp; done), HC4.out.2.size⟩
          obtain ⟨L, hL⟩ : ∃ z, z = c.take 0 ++ [(⟨po, pl, pg, pp⟩ : Pc)] ++ c.drop 0 := ⟨_, rfl⟩
          have HLL : Hid (L = _) := hL
          clear hL
          obtain ⟨n5, hn5⟩ : ∃ z, z = L.length := ⟨_, rfl⟩
          have HN5 : Hid (n5 = _) := hn5
          clear hn5
          go_upto_region 8 with fail
          go_wp2_with (first
            | (at_builtin; refine wpList_appE (E := pcE) Try.underlying27 infoPc rfl rfl _ _ rfl wq.heap.size _ (c.take 0 ++ [(⟨po, pl, pg, pp⟩ : Pc)]) rfl HC4.out.1 _ (c.drop 0) rfl HSD.out HLD.out.1 HLD.out.2.1 HLD.out.2.2 ?_; intro v5 w5 k1 k2; rw [← HLL.out] at k1; have HB5 : Hid (Below wq.heap.size wq w5) := (row_kept HC4.out.1 (Below.refl _ _) k2).2 HC4.out.2 HC4.out.2.size; obtain ⟨a5, c5, hv5⟩ := k1.sees.form; rw [← HN5.out] at hv5; subst hv5; have HK5 : Hid (RowE pcE w5 wq.heap.size 32 (.slice a5 n5 c5) L) := k1; clear k1 k2)
            | (go_at_call 46; refine (rjoined_any L _ w5 HK5.out.sees (HJL.out _ _ HLL.out).1 (HJL.out _ _ HLL.out).2).mono ?_; rintro e w6 ⟨v6, rfl, hr6, hb6⟩; have H6 : Hid (RowE pcE w6 w5.heap.size 32 v6 (joinB L) ∧ Below wq.heap.size wq w6) := ⟨hr6, bel_tr HB5.out hb6⟩; have q6 : w6.cell? ⟨q, 0, none⟩ = some (.slice (none) 0 0) := (H6.out.2.cell (by exact dq)).trans ((HWq.out.cell (by exact blk_lt H1.out.1)).trans (blk_cell H1.out.1 rfl)); have qf6 : w6.frozen? ⟨q, 0, none⟩ = false := blk_frozen (blk_below H6.out.2 (blk_below HWq.out H1.out.1)) 0; have ql6 : q < w6.heap.size := cell_lt9 q6; have HQ5 : Hid (q < w5.heap.size) := Nat.lt_of_lt_of_le dq HB5.out.size; obtain ⟨a6, c6, hv6⟩ := hr6.sees.form; obtain ⟨n6, hn6⟩ : ∃ z, z = (joinB L).length := ⟨_, rfl⟩; rw [← hn6] at hv6; subst hv6; clear hr6 hb6 hn6 q2))
          go_ret
          refine ⟨rfl, ⟨_, setCell_blk (blk_below H6.out.2 (blk_below HWq.out H1.out.1)) _, ?_⟩, ((H1.out.2.1.trans (turn1_below HWq.out)).trans (turn1_below H6.out.2)).trans (turn1_set q w6 0 _)⟩
          have hz := (rowE_set H6.out.1 HQ5.out 0 (.slice a6 n6 c6)).sees
          rw [HE.out, HK.out, List.append_cons, ← HLL.out]
          exact hz
      · subst e1
        by_cases hkc2 : k < cv
        · go_wp2
          go_quiet (fail)
          go_wp2
          obtain ⟨wq, hwq⟩ : ∃ z, z = wr.drewN nq := ⟨_, rfl⟩
          have HWq : Hid (Below w1.heap.size w1 wq) := by rw [hwq]; exact bel_tr HW.out (bel_drewN9 _ _)
          have q1 : wq.cell? ⟨q, 0, none⟩ = some (.slice (some ⟨g, 0, none⟩) n1 cv) := by rw [hwq]; exact q0
          have d0 : wq.cell? ⟨w.heap.size, 0, none⟩ = some (.int .i64 po) := by rw [hwq]; exact b0
          have d1 : wq.cell? ⟨w.heap.size, 1, none⟩ = some (.int .i64 pl) := by rw [hwq]; exact b1
          have d2 : wq.cell? ⟨w.heap.size, 2, none⟩ = some (.int .i64 pg) := by rw [hwq]; exact b2
          have d3 : wq.cell? ⟨w.heap.size, 3, none⟩ = some (.int .i64 pp) := by rw [hwq]; exact b3
          have dl : w.heap.size < wq.heap.size := by rw [hwq]; exact cell_lt9 b0
          have dq : q < wq.heap.size := by rw [hwq]; exact cell_lt9 q0
          have hcv : n1 ≤ cv := by
            obtain ⟨_, _, e, h2, _⟩ := H1.out.2.2.1.sees
            injection e with e1 e2 e3
            omega
          have hcvi : (k : Int) ≤ (cv : Int) := by omega
          have HB0 : Hid (w0.heap.size ≤ wq.heap.size) := by
            have h1 := blk_lt H1.out.2.2.2
            have h2 := H0.out.2.2
            have h3 := HWq.out.size
            show _ ≤ _
            omega
          have HO1 : Hid (RowE pcE (wq.alloc (.cells #[] 32)).drew wq.heap.size 32 (.slice (some ⟨wq.heap.size, 0, none⟩) 0 0) []) := rowE_empty pcE wq 32 wq.heap.size _ rfl (Nat.le_refl _)
          have HS1 : Hid (SeesE pcE (wq.alloc (.cells #[] 32)).drew (.slice (some ⟨g, 0, none⟩) k cv) (c.take k)) := ((H1.out.2.2.1.sees.below HWq.out).take k (by have := HN.out; omega)).below ((bel_newG _ _).drew)
          have HL1 : Hid (([] : List Pc).length + (c.take k).length ≤ maxLen ∧ (([] : List Pc).length + (c.take k).length) * 32 ≤ 140737488355328 ∧ wq.heap.size ≤ (wq.alloc (.cells #[] 32)).drew.heap.size) := by
            have h1 := HL.out.1
            exact ⟨by simp; unfold maxLen; omega, by simp; omega, ((bel_newG wq _).drew).size⟩
          have HU2 : Hid (Below wq.heap.size wq ((wq.alloc (.cells #[] 32)).alloc (.cells #[.int .i64 po, .int .i64 pl, .int .i64 pg, .int .i64 pp] 32)).drew) := (bel_tr (bel_newG _ _) (bel_newG _ _)).drew
          have HO2 : Hid (RowE pcE ((wq.alloc (.cells #[] 32)).alloc (.cells #[.int .i64 po, .int .i64 pl, .int .i64 pg, .int .i64 pp] 32)).drew wq.heap.size 32 (.slice (some ⟨wq.heap.size, 0, none⟩) 0 0) []) := RowE.below (w := wq.alloc (.cells #[] 32)) (rowE_empty pcE wq 32 wq.heap.size _ rfl (Nat.le_refl _)) ((bel_newG _ _).drew)
          have HS2 : Hid (SeesE pcE ((wq.alloc (.cells #[] 32)).alloc (.cells #[.int .i64 po, .int .i64 pl, .int .i64 pg, .int .i64 pp] 32)).drew (.slice (some ⟨g, 0, none⟩) k cv) (c.take k)) := ((H1.out.2.2.1.sees.below HWq.out).take k (by have := HN.out; omega)).below HU2.out
          have HT2 : Hid (((wq.alloc (.cells #[] 32)).alloc (.cells #[.int .i64 po, .int .i64 pl, .int .i64 pg, .int .i64 pp] 32)).drew.heap[wq.heap.size + 1]? = some (.cells #[.int .i64 po, .int .i64 pl, .int .i64 pg, .int .i64 pp] 32)) := by
            have h1 := (MapKept.heap_alloc (wq.alloc (.cells #[] 32)) (.cells #[.int .i64 po, .int .i64 pl, .int .i64 pg, .int .i64 pp] 32)).1
            have hs : (wq.alloc (.cells #[] 32)).heap.size = wq.heap.size + 1 := by simp
            rw [hs] at h1
            exact h1
          have HU3 : Hid (Below wq.heap.size wq ((wq.alloc (.cells #[.int .i64 po, .int .i64 pl, .int .i64 pg, .int .i64 pp] 32)).alloc (.cells #[] 32)).drew) := (bel_tr (bel_newG _ _) (bel_newG _ _)).drew
          have HO3 : Hid (RowE pcE ((wq.alloc (.cells #[.int .i64 po, .int .i64 pl, .int .i64 pg, .int .i64 pp] 32)).alloc (.cells #[] 32)).drew wq.heap.size 32 (.slice (some ⟨wq.heap.size + 1, 0, none⟩) 0 0) []) := rowE_empty pcE (wq.alloc (.cells #[.int .i64 po, .int .i64 pl, .int .i64 pg, .int .i64 pp] 32)) 32 wq.heap.size _ (by simp) (by simp)
          have HS3 : Hid (SeesE pcE ((wq.alloc (.cells #[.int .i64 po, .int .i64 pl, .int .i64 pg, .int .i64 pp] 32)).alloc (.cells #[] 32)).drew (.slice (some ⟨g, 0, none⟩) k cv) (c.take k)) := ((H1.out.2.2.1.sees.below HWq.out).take k (by have := HN.out; omega)).below HU3.out
          have HT3 : Hid (((wq.alloc (.cells #[.int .i64 po, .int .i64 pl, .int .i64 pg, .int .i64 pp] 32)).alloc (.cells #[] 32)).drew.heap[wq.heap.size]? = some (.cells #[.int .i64 po, .int .i64 pl, .int .i64 pg, .int .i64 pp] 32)) := blk_below (w := wq.alloc (.cells #[.int .i64 po, .int .i64 pl, .int .i64 pg, .int .i64 pp] 32)) ((bel_newG _ _).drew) (MapKept.heap_alloc wq _).1
          have HL4 : Hid ((c.take k).length + [(⟨po, pl, pg, pp⟩ : Pc)].length ≤ maxLen ∧ ((c.take k).length + [(⟨po, pl, pg, pp⟩ : Pc)].length) * 32 ≤ 140737488355328) := by
            have h1 := HL.out.1
            exact ⟨by simp; unfold maxLen; omega, by simp; omega⟩
          have HTK : Hid (k = (([] : List Pc) ++ c.take k).length) := by show _ = _; have := HN.out; simp; omega
          obtain ⟨n4, hn4⟩ : ∃ z, z = (c.take k ++ [(⟨po, pl, pg, pp⟩ : Pc)]).length := ⟨_, rfl⟩
          have HN4 : Hid (n4 = _) := hn4
          clear hn4
          rw [← hwq]
          clear hwq q0 b0 b1 b2 b3
          go_upto_region 7 with fail
          go_cut [6] from 76 to 86 (fun s6 wx => ∃ a4 c4, s6 = .slice a4 n4 c4 ∧ Hid (RowE pcE wx wq.heap.size 32 (.slice a4 n4 c4) (c.take k ++ [(⟨po, pl, pg, pp⟩ : Pc)]) ∧ Below wq.heap.size wq wx))
          case first =>
            go_region_law (first
              | (refine step_appE (E := pcE) Try.underlying27 infoPc rfl (by rfl) (.tmp 76) (.tmp 82) (by rfl) wq.heap.size (.slice (some ⟨wq.heap.size, 0, none⟩) 0 0) [] (by rfl) HO1.out (.slice (some ⟨g, 0, none⟩) k cv) (c.take k) (by rfl) HS1.out HL1.out.1 HL1.out.2.1 HL1.out.2.2 ?_; intro v3 w3 k1 k2; have HB3 : Hid (Below wq.heap.size wq w3) := app_first k2; obtain ⟨a3, c3, hv3⟩ := k1.sees.form; rw [← HTK.out] at hv3; subst hv3; have HR30 : Hid (RowE pcE w3 wq.heap.size 32 (.slice a3 k c3) (c.take k)) := k1; have HR3 : Hid (RowE pcE (w3.alloc (.cells #[.int .i64 po, .int .i64 pl, .int .i64 pg, .int .i64 pp] 32)) wq.heap.size 32 (.slice a3 k c3) (c.take k)) := k1.below (bel_newG _ _); have HS3 : Hid (SeesE pcE (w3.alloc (.cells #[.int .i64 po, .int .i64 pl, .int .i64 pg, .int .i64 pp] 32)) (.slice (some ⟨w3.heap.size, 0, none⟩) 1 1) [(⟨po, pl, pg, pp⟩ : Pc)]) := seesE_one pcE w3 32 (⟨po, pl, pg, pp⟩ : Pc) _ rfl; have HL3 : Hid ((c.take k).length + [(⟨po, pl, pg, pp⟩ : Pc)].length ≤ maxLen ∧ ((c.take k).length + [(⟨po, pl, pg, pp⟩ : Pc)].length) * 32 ≤ 140737488355328 ∧ wq.heap.size ≤ (w3.alloc (.cells #[.int .i64 po, .int .i64 pl, .int .i64 pg, .int .i64 pp] 32)).heap.size) := (by have h1 := HL.out.1; have h3 := HB3.out.size; exact ⟨by simp; unfold maxLen; omega, by simp; omega, by simp; omega⟩); have e0 : w3.cell? ⟨w.heap.size, 0, none⟩ = some (.int .i64 po) := (HB3.out.cell (by exact dl)).trans d0; have e1 : w3.cell? ⟨w.heap.size, 1, none⟩ = some (.int .i64 pl) := (HB3.out.cell (by exact dl)).trans d1; have e2 : w3.cell? ⟨w.heap.size, 2, none⟩ = some (.int .i64 pg) := (HB3.out.cell (by exact dl)).trans d2; have e3 : w3.cell? ⟨w.heap.size, 3, none⟩ = some (.int .i64 pp) := (HB3.out.cell (by exact dl)).trans d3; have el : w.heap.size < w3.heap.size := Nat.lt_of_lt_of_le dl HB3.out.size; clear k1 k2)
              | (refine step_appE (E := pcE) Try.underlying27 infoPc rfl (by rfl) (.tmp 83) (.tmp 85) (by rfl) wq.heap.size (.slice a3 k c3) (c.take k) (by rfl) HR3.out (.slice (some ⟨w3.heap.size, 0, none⟩) 1 1) [(⟨po, pl, pg, pp⟩ : Pc)] (by rfl) HS3.out HL3.out.1 HL3.out.2.1 HL3.out.2.2 ?_; intro v4 w4 k1 k2; have HB4 : Hid (Below wq.heap.size wq w4) := (row_kept HR30.out (bel_newG w3 _) k2).2 HB3.out HB3.out.size; obtain ⟨a4, c4, hv4⟩ := k1.sees.form; rw [← HN4.out] at hv4; subst hv4; have HK4 : Hid (RowE pcE w4 wq.heap.size 32 _ (c.take k ++ [(⟨po, pl, pg, pp⟩ : Pc)])) := k1; clear k1 k2)
              | (refine step_appE (E := pcE) Try.underlying27 infoPc rfl (by rfl) (.tmp 76) (.tmp 82) (by rfl) wq.heap.size (.slice (some ⟨wq.heap.size, 0, none⟩) 0 0) [] (by rfl) HO2.out (.slice (some ⟨g, 0, none⟩) k cv) (c.take k) (by rfl) HS2.out HL1.out.1 HL1.out.2.1 HU2.out.size ?_; intro v3 w3 k1 k2; have HB23 : Hid (Below wq.heap.size wq w3) := (row_kept HO2.out (Below.refl _ _) k2).2 HU2.out HU2.out.size; have HZ2 : Hid (SeesE pcE w3 (.slice (some ⟨wq.heap.size + 1, 0, none⟩) 1 1) [(⟨po, pl, pg, pp⟩ : Pc)]) := seesE_blk pcE ((k2.block _ (blk_lt HT2.out) (by simp [Value.ownBlock])).trans HT2.out); obtain ⟨a3, c3, hv3⟩ := k1.sees.form; rw [← HTK.out] at hv3; subst hv3; have HR23 : Hid (RowE pcE w3 wq.heap.size 32 (.slice a3 k c3) (c.take k)) := k1; clear k1 k2)
              | (refine step_appE (E := pcE) Try.underlying27 infoPc rfl (by rfl) (.tmp 83) (.tmp 85) (by rfl) wq.heap.size (.slice a3 k c3) (c.take k) (by rfl) HR23.out (.slice (some ⟨wq.heap.size + 1, 0, none⟩) 1 1) [(⟨po, pl, pg, pp⟩ : Pc)] (by rfl) HZ2.out HL4.out.1 HL4.out.2 HB23.out.size ?_; intro v4 w4 k1 k2; have HB4 : Hid (Below wq.heap.size wq w4) := (row_kept HR23.out (Below.refl _ _) k2).2 HB23.out HB23.out.size; obtain ⟨a4, c4, hv4⟩ := k1.sees.form; rw [← HN4.out] at hv4; subst hv4; have HK4 : Hid (RowE pcE w4 wq.heap.size 32 _ (c.take k ++ [(⟨po, pl, pg, pp⟩ : Pc)])) := k1; clear k1 k2)
              | (refine step_appE (E := pcE) Try.underlying27 infoPc rfl (by rfl) (.tmp 76) (.tmp 82) (by rfl) wq.heap.size (.slice (some ⟨wq.heap.size + 1, 0, none⟩) 0 0) [] (by rfl) HO3.out (.slice (some ⟨g, 0, none⟩) k cv) (c.take k) (by rfl) HS3.out HL1.out.1 HL1.out.2.1 HU3.out.size ?_; intro v3 w3 k1 k2; have HB33 : Hid (Below wq.heap.size wq w3) := (row_kept HO3.out (Below.refl _ _) k2).2 HU3.out HU3.out.size; have HZ3 : Hid (SeesE pcE w3 (.slice (some ⟨wq.heap.size, 0, none⟩) 1 1) [(⟨po, pl, pg, pp⟩ : Pc)]) := seesE_blk pcE ((k2.block _ (blk_lt HT3.out) (by simp [Value.ownBlock])).trans HT3.out); obtain ⟨a3, c3, hv3⟩ := k1.sees.form; rw [← HTK.out] at hv3; subst hv3; have HR33 : Hid (RowE pcE w3 wq.heap.size 32 (.slice a3 k c3) (c.take k)) := k1; clear k1 k2)
              | (refine step_appE (E := pcE) Try.underlying27 infoPc rfl (by rfl) (.tmp 83) (.tmp 85) (by rfl) wq.heap.size (.slice a3 k c3) (c.take k) (by rfl) HR33.out (.slice (some ⟨wq.heap.size, 0, none⟩) 1 1) [(⟨po, pl, pg, pp⟩ : Pc)] (by rfl) HZ3.out HL4.out.1 HL4.out.2 HB33.out.size ?_; intro v4 w4 k1 k2; have HB4 : Hid (Below wq.heap.size wq w4) := (row_kept HR33.out (Below.refl _ _) k2).2 HB33.out HB33.out.size; obtain ⟨a4, c4, hv4⟩ := k1.sees.form; rw [← HN4.out] at hv4; subst hv4; have HK4 : Hid (RowE pcE w4 wq.heap.size 32 _ (c.take k ++ [(⟨po, pl, pg, pp⟩ : Pc)])) := k1; clear k1 k2))
            all_goals (
              go_wp2_with fail
              go_meet
              case rel => exact ⟨_, _, rfl, ⟨HK4.out, HB4.out⟩⟩)
          case rest =>
            obtain ⟨a4, c4, rfl, HC4⟩ := hcut
            have q2 : wc.cell? ⟨q, 0, none⟩ = some (.slice (some ⟨g, 0, none⟩) n1 cv) := (HC4.out.2.cell (by exact dq)).trans q1
            have hk1 : (k : Int) ≤ (n1 : Int) := by omega
            clear q1 d0 d1 d2 d3 dl HO1 HS1 HL1 HO2 HS2 HT2 HO3 HS3 HT3 HU2 HU3 HL4 HTK
            have hkci : (k : Int) < (cv : Int) := by omega
            have HSD : Hid (SeesE pcE wc (.slice (some ⟨g, k * 4, none⟩) (n1 - k) (cv - k)) (c.drop k)) := by
              have h := ((H1.out.2.2.1.sees.below HWq.out).below HC4.out.2).drop k (by have := HN.out; omega)
              rw [Nat.zero_add] at h
              exact h
            have HLD : Hid ((c.take k ++ [(⟨po, pl, pg, pp⟩ : Pc)]).length + (c.drop k).length ≤ maxLen ∧ ((c.take k ++ [(⟨po, pl, pg, pp⟩ : Pc)]).length + (c.drop k).length) * 32 ≤ 140737488355328 ∧ wq.heap.size ≤ wc.heap.size) := by
              have h1 := HL.out.1
              exact ⟨by simp; unfold maxLen; omega, by simp; omega, HC4.out.2.size⟩
            obtain ⟨L, hL⟩ : ∃ z, z = c.take k ++ [(⟨po, pl, pg, pp⟩ : Pc)] ++ c.drop k := ⟨_, rfl⟩
            have HLL : Hid (L = _) := hL
            clear hL
            obtain ⟨n5, hn5⟩ : ∃ z, z = L.length := ⟨_, rfl⟩
            have HN5 : Hid (n5 = _) := hn5
            clear hn5
            go_upto_region 8 with fail
            go_wp2_with (first
              | (at_builtin; refine wpList_appE (E := pcE) Try.underlying27 infoPc rfl rfl _ _ rfl wq.heap.size _ (c.take k ++ [(⟨po, pl, pg, pp⟩ : Pc)]) rfl HC4.out.1 _ (c.drop k) rfl HSD.out HLD.out.1 HLD.out.2.1 HLD.out.2.2 ?_; intro v5 w5 k1 k2; rw [← HLL.out] at k1; have HB5 : Hid (Below wq.heap.size wq w5) := (row_kept HC4.out.1 (Below.refl _ _) k2).2 HC4.out.2 HC4.out.2.size; obtain ⟨a5, c5, hv5⟩ := k1.sees.form; rw [← HN5.out] at hv5; subst hv5; have HK5 : Hid (RowE pcE w5 wq.heap.size 32 (.slice a5 n5 c5) L) := k1; clear k1 k2)
              | (go_at_call 46; refine (rjoined_any L _ w5 HK5.out.sees (HJL.out _ _ HLL.out).1 (HJL.out _ _ HLL.out).2).mono ?_; rintro e w6 ⟨v6, rfl, hr6, hb6⟩; have H6 : Hid (RowE pcE w6 w5.heap.size 32 v6 (joinB L) ∧ Below wq.heap.size wq w6) := ⟨hr6, bel_tr HB5.out hb6⟩; have q6 : w6.cell? ⟨q, 0, none⟩ = some (.slice (some ⟨g, 0, none⟩) n1 cv) := (H6.out.2.cell (by exact dq)).trans ((HWq.out.cell (by exact blk_lt H1.out.1)).trans (blk_cell H1.out.1 rfl)); have qf6 : w6.frozen? ⟨q, 0, none⟩ = false := blk_frozen (blk_below H6.out.2 (blk_below HWq.out H1.out.1)) 0; have ql6 : q < w6.heap.size := cell_lt9 q6; have HQ5 : Hid (q < w5.heap.size) := Nat.lt_of_lt_of_le dq HB5.out.size; obtain ⟨a6, c6, hv6⟩ := hr6.sees.form; obtain ⟨n6, hn6⟩ : ∃ z, z = (joinB L).length := ⟨_, rfl⟩; rw [← hn6] at hv6; subst hv6; clear hr6 hb6 hn6 q2))
            go_ret
            refine ⟨rfl, ⟨_, setCell_blk (blk_below H6.out.2 (blk_below HWq.out H1.out.1)) _, ?_⟩, ((H1.out.2.1.trans (turn1_below HWq.out)).trans (turn1_below H6.out.2)).trans (turn1_set q w6 0 _)⟩
            have hz := (rowE_set H6.out.1 HQ5.out 0 (.slice a6 n6 c6)).sees
            rw [HE.out, HK.out, List.append_cons, ← HLL.out]
            exact hz
        · have hcv0 : n1 ≤ cv := by
            obtain ⟨_, _, e, h2, _⟩ := H1.out.2.2.1.sees
            injection e with e1 e2 e3
            omega
          have hkc3 : k = cv := by
            have h1 := HN.out
            have h2 := H1.out.2.2.1.sees
            have h3 : ¬ k < n1 := hlt
            have h4 : cv ≤ k := by omega
            omega
          have hkn : k = n1 := by omega
          subst hkn
          subst hkc3
          clear hcv0
          go_wp2
          go_quiet (fail)
          go_wp2
          obtain ⟨wq, hwq⟩ : ∃ z, z = wr.drewN nq := ⟨_, rfl⟩
          have HWq : Hid (Below w1.heap.size w1 wq) := by rw [hwq]; exact bel_tr HW.out (bel_drewN9 _ _)
          have q1 : wq.cell? ⟨q, 0, none⟩ = some (.slice (some ⟨g, 0, none⟩) k k) := by rw [hwq]; exact q0
          have d0 : wq.cell? ⟨w.heap.size, 0, none⟩ = some (.int .i64 po) := by rw [hwq]; exact b0
          have d1 : wq.cell? ⟨w.heap.size, 1, none⟩ = some (.int .i64 pl) := by rw [hwq]; exact b1
          have d2 : wq.cell? ⟨w.heap.size, 2, none⟩ = some (.int .i64 pg) := by rw [hwq]; exact b2
          have d3 : wq.cell? ⟨w.heap.size, 3, none⟩ = some (.int .i64 pp) := by rw [hwq]; exact b3
          have dl : w.heap.size < wq.heap.size := by rw [hwq]; exact cell_lt9 b0
          have dq : q < wq.heap.size := by rw [hwq]; exact cell_lt9 q0
          have HB0 : Hid (w0.heap.size ≤ wq.heap.size) := by
            have h1 := blk_lt H1.out.2.2.2
            have h2 := H0.out.2.2
            have h3 := HWq.out.size
            show _ ≤ _
            omega
          have HO1 : Hid (RowE pcE (wq.alloc (.cells #[] 32)).drew wq.heap.size 32 (.slice (some ⟨wq.heap.size, 0, none⟩) 0 0) []) := rowE_empty pcE wq 32 wq.heap.size _ rfl (Nat.le_refl _)
          have HS1 : Hid (SeesE pcE (wq.alloc (.cells #[] 32)).drew (.slice (some ⟨g, 0, none⟩) k k) (c.take k)) := ((H1.out.2.2.1.sees.below HWq.out).take k (by have := HN.out; omega)).below ((bel_newG _ _).drew)
          have HL1 : Hid (([] : List Pc).length + (c.take k).length ≤ maxLen ∧ (([] : List Pc).length + (c.take k).length) * 32 ≤ 140737488355328 ∧ wq.heap.size ≤ (wq.alloc (.cells #[] 32)).drew.heap.size) := by
            have h1 := HL.out.1
            exact ⟨by simp; unfold maxLen; omega, by simp; omega, ((bel_newG wq _).drew).size⟩
          have HU2 : Hid (Below wq.heap.size wq ((wq.alloc (.cells #[] 32)).alloc (.cells #[.int .i64 po, .int .i64 pl, .int .i64 pg, .int .i64 pp] 32)).drew) := (bel_tr (bel_newG _ _) (bel_newG _ _)).drew
          have HO2 : Hid (RowE pcE ((wq.alloc (.cells #[] 32)).alloc (.cells #[.int .i64 po, .int .i64 pl, .int .i64 pg, .int .i64 pp] 32)).drew wq.heap.size 32 (.slice (some ⟨wq.heap.size, 0, none⟩) 0 0) []) := RowE.below (w := wq.alloc (.cells #[] 32)) (rowE_empty pcE wq 32 wq.heap.size _ rfl (Nat.le_refl _)) ((bel_newG _ _).drew)
          have HS2 : Hid (SeesE pcE ((wq.alloc (.cells #[] 32)).alloc (.cells #[.int .i64 po, .int .i64 pl, .int .i64 pg, .int .i64 pp] 32)).drew (.slice (some ⟨g, 0, none⟩) k k) (c.take k)) := ((H1.out.2.2.1.sees.below HWq.out).take k (by have := HN.out; omega)).below HU2.out
          have HT2 : Hid (((wq.alloc (.cells #[] 32)).alloc (.cells #[.int .i64 po, .int .i64 pl, .int .i64 pg, .int .i64 pp] 32)).drew.heap[wq.heap.size + 1]? = some (.cells #[.int .i64 po, .int .i64 pl, .int .i64 pg, .int .i64 pp] 32)) := by
            have h1 := (MapKept.heap_alloc (wq.alloc (.cells #[] 32)) (.cells #[.int .i64 po, .int .i64 pl, .int .i64 pg, .int .i64 pp] 32)).1
            have hs : (wq.alloc (.cells #[] 32)).heap.size = wq.heap.size + 1 := by simp
            rw [hs] at h1
            exact h1
          have HU3 : Hid (Below wq.heap.size wq ((wq.alloc (.cells #[.int .i64 po, .int .i64 pl, .int .i64 pg, .int .i64 pp] 32)).alloc (.cells #[] 32)).drew) := (bel_tr (bel_newG _ _) (bel_newG _ _)).drew
          have HO3 : Hid (RowE pcE ((wq.alloc (.cells #[.int .i64 po, .int .i64 pl, .int .i64 pg, .int .i64 pp] 32)).alloc (.cells #[] 32)).drew wq.heap.size 32 (.slice (some ⟨wq.heap.size + 1, 0, none⟩) 0 0) []) := rowE_empty pcE (wq.alloc (.cells #[.int .i64 po, .int .i64 pl, .int .i64 pg, .int .i64 pp] 32)) 32 wq.heap.size _ (by simp) (by simp)
          have HS3 : Hid (SeesE pcE ((wq.alloc (.cells #[.int .i64 po, .int .i64 pl, .int .i64 pg, .int .i64 pp] 32)).alloc (.cells #[] 32)).drew (.slice (some ⟨g, 0, none⟩) k k) (c.take k)) := ((H1.out.2.2.1.sees.below HWq.out).take k (by have := HN.out; omega)).below HU3.out
          have HT3 : Hid (((wq.alloc (.cells #[.int .i64 po, .int .i64 pl, .int .i64 pg, .int .i64 pp] 32)).alloc (.cells #[] 32)).drew.heap[wq.heap.size]? = some (.cells #[.int .i64 po, .int .i64 pl, .int .i64 pg, .int .i64 pp] 32)) := blk_below (w := wq.alloc (.cells #[.int .i64 po, .int .i64 pl, .int .i64 pg, .int .i64 pp] 32)) ((bel_newG _ _).drew) (MapKept.heap_alloc wq _).1
          have HL4 : Hid ((c.take k).length + [(⟨po, pl, pg, pp⟩ : Pc)].length ≤ maxLen ∧ ((c.take k).length + [(⟨po, pl, pg, pp⟩ : Pc)].length) * 32 ≤ 140737488355328) := by
            have h1 := HL.out.1
            exact ⟨by simp; unfold maxLen; omega, by simp; omega⟩
          have HTK : Hid (k = (([] : List Pc) ++ c.take k).length) := by show _ = _; have := HN.out; simp; omega
          obtain ⟨n4, hn4⟩ : ∃ z, z = (c.take k ++ [(⟨po, pl, pg, pp⟩ : Pc)]).length := ⟨_, rfl⟩
          have HN4 : Hid (n4 = _) := hn4
          clear hn4
          rw [← hwq]
          clear hwq q0 b0 b1 b2 b3
          go_upto_region 7 with fail
          go_cut [6] from 76 to 86 (fun s6 wx => ∃ a4 c4, s6 = .slice a4 n4 c4 ∧ Hid (RowE pcE wx wq.heap.size 32 (.slice a4 n4 c4) (c.take k ++ [(⟨po, pl, pg, pp⟩ : Pc)]) ∧ Below wq.heap.size wq wx))
          case first =>
            go_region_law (first
              | (refine step_appE (E := pcE) Try.underlying27 infoPc rfl (by rfl) (.tmp 76) (.tmp 82) (by rfl) wq.heap.size (.slice (some ⟨wq.heap.size, 0, none⟩) 0 0) [] (by rfl) HO1.out (.slice (some ⟨g, 0, none⟩) k k) (c.take k) (by rfl) HS1.out HL1.out.1 HL1.out.2.1 HL1.out.2.2 ?_; intro v3 w3 k1 k2; have HB3 : Hid (Below wq.heap.size wq w3) := app_first k2; obtain ⟨a3, c3, hv3⟩ := k1.sees.form; rw [← HTK.out] at hv3; subst hv3; have HR30 : Hid (RowE pcE w3 wq.heap.size 32 (.slice a3 k c3) (c.take k)) := k1; have HR3 : Hid (RowE pcE (w3.alloc (.cells #[.int .i64 po, .int .i64 pl, .int .i64 pg, .int .i64 pp] 32)) wq.heap.size 32 (.slice a3 k c3) (c.take k)) := k1.below (bel_newG _ _); have HS3 : Hid (SeesE pcE (w3.alloc (.cells #[.int .i64 po, .int .i64 pl, .int .i64 pg, .int .i64 pp] 32)) (.slice (some ⟨w3.heap.size, 0, none⟩) 1 1) [(⟨po, pl, pg, pp⟩ : Pc)]) := seesE_one pcE w3 32 (⟨po, pl, pg, pp⟩ : Pc) _ rfl; have HL3 : Hid ((c.take k).length + [(⟨po, pl, pg, pp⟩ : Pc)].length ≤ maxLen ∧ ((c.take k).length + [(⟨po, pl, pg, pp⟩ : Pc)].length) * 32 ≤ 140737488355328 ∧ wq.heap.size ≤ (w3.alloc (.cells #[.int .i64 po, .int .i64 pl, .int .i64 pg, .int .i64 pp] 32)).heap.size) := (by have h1 := HL.out.1; have h3 := HB3.out.size; exact ⟨by simp; unfold maxLen; omega, by simp; omega, by simp; omega⟩); have e0 : w3.cell? ⟨w.heap.size, 0, none⟩ = some (.int .i64 po) := (HB3.out.cell (by exact dl)).trans d0; have e1 : w3.cell? ⟨w.heap.size, 1, none⟩ = some (.int .i64 pl) := (HB3.out.cell (by exact dl)).trans d1; have e2 : w3.cell? ⟨w.heap.size, 2, none⟩ = some (.int .i64 pg) := (HB3.out.cell (by exact dl)).trans d2; have e3 : w3.cell? ⟨w.heap.size, 3, none⟩ = some (.int .i64 pp) := (HB3.out.cell (by exact dl)).trans d3; have el : w.heap.size < w3.heap.size := Nat.lt_of_lt_of_le dl HB3.out.size; clear k1 k2)
              | (refine step_appE (E := pcE) Try.underlying27 infoPc rfl (by rfl) (.tmp 83) (.tmp 85) (by rfl) wq.heap.size (.slice a3 k c3) (c.take k) (by rfl) HR3.out (.slice (some ⟨w3.heap.size, 0, none⟩) 1 1) [(⟨po, pl, pg, pp⟩ : Pc)] (by rfl) HS3.out HL3.out.1 HL3.out.2.1 HL3.out.2.2 ?_; intro v4 w4 k1 k2; have HB4 : Hid (Below wq.heap.size wq w4) := (row_kept HR30.out (bel_newG w3 _) k2).2 HB3.out HB3.out.size; obtain ⟨a4, c4, hv4⟩ := k1.sees.form; rw [← HN4.out] at hv4; subst hv4; have HK4 : Hid (RowE pcE w4 wq.heap.size 32 _ (c.take k ++ [(⟨po, pl, pg, pp⟩ : Pc)])) := k1; clear k1 k2)
              | (refine step_appE (E := pcE) Try.underlying27 infoPc rfl (by rfl) (.tmp 76) (.tmp 82) (by rfl) wq.heap.size (.slice (some ⟨wq.heap.size, 0, none⟩) 0 0) [] (by rfl) HO2.out (.slice (some ⟨g, 0, none⟩) k k) (c.take k) (by rfl) HS2.out HL1.out.1 HL1.out.2.1 HU2.out.size ?_; intro v3 w3 k1 k2; have HB23 : Hid (Below wq.heap.size wq w3) := (row_kept HO2.out (Below.refl _ _) k2).2 HU2.out HU2.out.size; have HZ2 : Hid (SeesE pcE w3 (.slice (some ⟨wq.heap.size + 1, 0, none⟩) 1 1) [(⟨po, pl, pg, pp⟩ : Pc)]) := seesE_blk pcE ((k2.block _ (blk_lt HT2.out) (by simp [Value.ownBlock])).trans HT2.out); obtain ⟨a3, c3, hv3⟩ := k1.sees.form; rw [← HTK.out] at hv3; subst hv3; have HR23 : Hid (RowE pcE w3 wq.heap.size 32 (.slice a3 k c3) (c.take k)) := k1; clear k1 k2)
              | (refine step_appE (E := pcE) Try.underlying27 infoPc rfl (by rfl) (.tmp 83) (.tmp 85) (by rfl) wq.heap.size (.slice a3 k c3) (c.take k) (by rfl) HR23.out (.slice (some ⟨wq.heap.size + 1, 0, none⟩) 1 1) [(⟨po, pl, pg, pp⟩ : Pc)] (by rfl) HZ2.out HL4.out.1 HL4.out.2 HB23.out.size ?_; intro v4 w4 k1 k2; have HB4 : Hid (Below wq.heap.size wq w4) := (row_kept HR23.out (Below.refl _ _) k2).2 HB23.out HB23.out.size; obtain ⟨a4, c4, hv4⟩ := k1.sees.form; rw [← HN4.out] at hv4; subst hv4; have HK4 : Hid (RowE pcE w4 wq.heap.size 32 _ (c.take k ++ [(⟨po, pl, pg, pp⟩ : Pc)])) := k1; clear k1 k2)
              | (refine step_appE (E := pcE) Try.underlying27 infoPc rfl (by rfl) (.tmp 76) (.tmp 82) (by rfl) wq.heap.size (.slice (some ⟨wq.heap.size + 1, 0, none⟩) 0 0) [] (by rfl) HO3.out (.slice (some ⟨g, 0, none⟩) k k) (c.take k) (by rfl) HS3.out HL1.out.1 HL1.out.2.1 HU3.out.size ?_; intro v3 w3 k1 k2; have HB33 : Hid (Below wq.heap.size wq w3) := (row_kept HO3.out (Below.refl _ _) k2).2 HU3.out HU3.out.size; have HZ3 : Hid (SeesE pcE w3 (.slice (some ⟨wq.heap.size, 0, none⟩) 1 1) [(⟨po, pl, pg, pp⟩ : Pc)]) := seesE_blk pcE ((k2.block _ (blk_lt HT3.out) (by simp [Value.ownBlock])).trans HT3.out); obtain ⟨a3, c3, hv3⟩ := k1.sees.form; rw [← HTK.out] at hv3; subst hv3; have HR33 : Hid (RowE pcE w3 wq.heap.size 32 (.slice a3 k c3) (c.take k)) := k1; clear k1 k2)
              | (refine step_appE (E := pcE) Try.underlying27 infoPc rfl (by rfl) (.tmp 83) (.tmp 85) (by rfl) wq.heap.size (.slice a3 k c3) (c.take k) (by rfl) HR33.out (.slice (some ⟨wq.heap.size, 0, none⟩) 1 1) [(⟨po, pl, pg, pp⟩ : Pc)] (by rfl) HZ3.out HL4.out.1 HL4.out.2 HB33.out.size ?_; intro v4 w4 k1 k2; have HB4 : Hid (Below wq.heap.size wq w4) := (row_kept HR33.out (Below.refl _ _) k2).2 HB33.out HB33.out.size; obtain ⟨a4, c4, hv4⟩ := k1.sees.form; rw [← HN4.out] at hv4; subst hv4; have HK4 : Hid (RowE pcE w4 wq.heap.size 32 _ (c.take k ++ [(⟨po, pl, pg, pp⟩ : Pc)])) := k1; clear k1 k2))
            all_goals (
              go_wp2_with fail
              go_meet
              case rel => exact ⟨_, _, rfl, ⟨HK4.out, HB4.out⟩⟩)
          case rest =>
            obtain ⟨a4, c4, rfl, HC4⟩ := hcut
            have q2 : wc.cell? ⟨q, 0, none⟩ = some (.slice (some ⟨g, 0, none⟩) k k) := (HC4.out.2.cell (by exact dq)).trans q1
            clear q1 d0 d1 d2 d3 dl HO1 HS1 HL1 HO2 HS2 HT2 HO3 HS3 HT3 HU2 HU3 HL4 HTK
            have HSD : Hid (SeesE pcE wc (.slice (some ⟨g, 0, none⟩) 0 0) (c.drop k)) := by rw [HDN.out]; exact drop_nil9 wc _ (fun _ => rfl)
            have HLD : Hid ((c.take k ++ [(⟨po, pl, pg, pp⟩ : Pc)]).length + (c.drop k).length ≤ maxLen ∧ ((c.take k ++ [(⟨po, pl, pg, pp⟩ : Pc)]).length + (c.drop k).length) * 32 ≤ 140737488355328 ∧ wq.heap.size ≤ wc.heap.size) := by
              have h1 := HL.out.1
              exact ⟨by simp; unfold maxLen; omega, by simp; omega, HC4.out.2.size⟩
            obtain ⟨L, hL⟩ : ∃ z, z = c.take k ++ [(⟨po, pl, pg, pp⟩ : Pc)] ++ c.drop k := ⟨_, rfl⟩
            have HLL : Hid (L = _) := hL
            clear hL
            obtain ⟨n5, hn5⟩ : ∃ z, z = L.length := ⟨_, rfl⟩
            have HN5 : Hid (n5 = _) := hn5
            clear hn5
            go_upto_region 8 with fail
            go_wp2_with (first
              | (at_builtin; refine wpList_appE (E := pcE) Try.underlying27 infoPc rfl rfl _ _ rfl wq.heap.size _ (c.take k ++ [(⟨po, pl, pg, pp⟩ : Pc)]) rfl HC4.out.1 _ (c.drop k) rfl HSD.out HLD.out.1 HLD.out.2.1 HLD.out.2.2 ?_; intro v5 w5 k1 k2; rw [← HLL.out] at k1; have HB5 : Hid (Below wq.heap.size wq w5) := (row_kept HC4.out.1 (Below.refl _ _) k2).2 HC4.out.2 HC4.out.2.size; obtain ⟨a5, c5, hv5⟩ := k1.sees.form; rw [← HN5.out] at hv5; subst hv5; have HK5 : Hid (RowE pcE w5 wq.heap.size 32 (.slice a5 n5 c5) L) := k1; clear k1 k2)
              | (go_at_call 46; refine (rjoined_any L _ w5 HK5.out.sees (HJL.out _ _ HLL.out).1 (HJL.out _ _ HLL.out).2).mono ?_; rintro e w6 ⟨v6, rfl, hr6, hb6⟩; have H6 : Hid (RowE pcE w6 w5.heap.size 32 v6 (joinB L) ∧ Below wq.heap.size wq w6) := ⟨hr6, bel_tr HB5.out hb6⟩; have q6 : w6.cell? ⟨q, 0, none⟩ = some (.slice (some ⟨g, 0, none⟩) k k) := (H6.out.2.cell (by exact dq)).trans ((HWq.out.cell (by exact blk_lt H1.out.1)).trans (blk_cell H1.out.1 rfl)); have qf6 : w6.frozen? ⟨q, 0, none⟩ = false := blk_frozen (blk_below H6.out.2 (blk_below HWq.out H1.out.1)) 0; have ql6 : q < w6.heap.size := cell_lt9 q6; have HQ5 : Hid (q < w5.heap.size) := Nat.lt_of_lt_of_le dq HB5.out.size; obtain ⟨a6, c6, hv6⟩ := hr6.sees.form; obtain ⟨n6, hn6⟩ : ∃ z, z = (joinB L).length := ⟨_, rfl⟩; rw [← hn6] at hv6; subst hv6; clear hr6 hb6 hn6 q2))
            go_ret
            refine ⟨rfl, ⟨_, setCell_blk (blk_below H6.out.2 (blk_below HWq.out H1.out.1)) _, ?_⟩, ((H1.out.2.1.trans (turn1_below HWq.out)).trans (turn1_below H6.out.2)).trans (turn1_set q w6 0 _)⟩
            have hz := (rowE_set H6.out.1 HQ5.out 0 (.slice a6 n6 c6)).sees
            rw [HE.out, HK.out, List.append_cons, ← HLL.out]
            exact hz
end Go.Proofs.Ythdmclhccbjgoaa
