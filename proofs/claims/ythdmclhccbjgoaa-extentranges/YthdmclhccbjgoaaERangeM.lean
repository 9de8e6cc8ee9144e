/- package extent: Range, of some places. -/
import Derived.Test.YthdmclhccbjgoaaERangeT
import Derived.Test.YthdmclhccbjgoaaEHole
namespace Go.Proofs.Ythdmclhccbjgoaa
open Go.RowKit Kit
set_option linter.unusedVariables false

set_option maxRecDepth 4000 in
set_option maxHeartbeats 8000000 in
theorem erange_some (p B : Nat) (a b : Int) (v : Value) (ps : List Pc) (w : World) (hm : EMap w p B v ps) (hr : Rise ps) (hf : Fits ps) (hl : ps.length ≤ 1000) (hab : a < b) :
    Calls Try.prog 16 #[.pointer (some ⟨p, 0, none⟩), .int .i64 a, .int .i64 b] w fun e w' => ∃ v', e = .returned v' ∧ RowE pcE w' w.heap.size 35 v' (rangeB ps a b) ∧ Below w.heap.size w w' := by
  have HM : Hid (EMap w p B v ps) := hm
  obtain ⟨i, hi⟩ : ∃ z, z = firstI a ps := ⟨_, rfl⟩
  obtain ⟨j, hj⟩ : ∃ z, z = aheadB b ps := ⟨_, rfl⟩
  have hij : i ≤ j := by rw [hi, hj]; exact first_le_ahead hab hr
  have hjl : j ≤ ps.length := by rw [hj]; exact ahead_le _ _
  have HX : Hid (rangeB ps a b = rangeB ((ps.take j).drop i) a b) := by
    show _ = _
    rw [hi, hj]; exact range_mid hab hr
  have HA : Hid (Calls Try.prog 34 #[.pointer (some ⟨p, 0, none⟩), .int .i64 a, .int .i64 b] w fun e w' => e = .returned (.tuple #[.int .i64 (i : Int), .int .i64 (j : Int)]) ∧ Below w.heap.size w w') := by
    show Calls _ _ _ _ _
    rw [hi, hj]
    exact eamong_any p a b v ps w hab hm.cell hm.row.sees hr hf hl
  have HMID : Hid (∀ x ∈ (ps.take j).drop i, Fit x ∧ x.off < b ∧ a < x.off + x.len) := fun x hx => by
    have h1 : x ∈ ps.take j := List.mem_of_mem_drop hx
    refine ⟨hf x (List.mem_of_mem_take h1), ?_, ?_⟩
    · rw [hj] at h1; exact to_ahead x h1
    · refine from_first (a := a) hr x ?_
      rw [← hi]
      obtain ⟨k, hk, rfl⟩ := List.mem_iff_getElem.1 hx
      rw [List.getElem_drop, List.getElem_take]
      exact List.mem_drop_iff_getElem.2 ⟨k, by rw [List.length_drop, List.length_take] at hk; omega, by congr 1⟩
  have hjn : (j : Int) ≤ 1000 := by omega
  clear hi hj hr hf
  rcases part_sees hm.row i j hij hjl with ⟨hv, hi0, hj0, hps⟩ | ⟨g, cap, A, hv, hA, HS, hcap, hcm⟩
  · subst hv hi0 hj0 hps
    clear hm
    go_enter Try.func16, Try.ntmps16
    go_wp2_with (first
      | (go_at_call 34; refine HA.out.mono ?_; rintro e w1 ⟨rfl, hb1⟩; have HB1 : Hid (Below w.heap.size w w1) := hb1; clear hb1)
      | (go_at_call 31; refine (eall_any p _ _ (HM.out.below HB1.out).cell).mono ?_; rintro e w2 ⟨rfl, rfl⟩)
      | fail)
    go_loopw [9, 25] (fun s9 s25 wr => s9 = .slice none 0 0 ∧ s25 = .int .i64 0 ∧ Hid (Below w.heap.size w wr)) (fun _ _ _ => 0)
    case atStart => exact ⟨rfl, rfl, HB1.out⟩
    case round =>
      obtain ⟨rfl, rfl, HI⟩ := hrel
      go_wp2
      go_ret
      exact ⟨_, rfl, rowE_nil pcE _ _ _, HI.out⟩
  · subst hv
    obtain ⟨off, rfl⟩ : ∃ off, A = ⟨g, off, none⟩ := by
      by_cases hci : cap = i
      · rw [if_pos hci] at hA; exact ⟨0, (Option.some.inj hA).symm⟩
      · rw [if_neg hci] at hA; exact ⟨_, (Option.some.inj hA).symm⟩
    obtain ⟨n, hn⟩ : ∃ n, n = ps.length := ⟨_, rfl⟩
    rw [← hn] at HM hcap hjl hm
    obtain ⟨mid, hmid⟩ : ∃ z, z = (ps.take j).drop i := ⟨_, rfl⟩
    rw [← hmid] at HX HMID HS
    have HD : Hid (mid.length = j - i) := by show _ = _; rw [hmid, List.length_drop, List.length_take]; omega
    have hcm2 : cap ≤ 9223372036854775807 := hcm
    have hi0 : (0 : Int) ≤ (i : Int) := by omega
    have hijI : (i : Int) ≤ (j : Int) := by omega
    have hjc : (j : Int) ≤ (cap : Int) := by omega
    have hic : (i : Int) ≤ (cap : Int) := by omega
    clear hm hn hmid hcm hl
    go_enter Try.func16, Try.ntmps16
    go_wp2_with (first
      | (go_at_call 34; refine HA.out.mono ?_; rintro e w1 ⟨rfl, hb1⟩; have HB1 : Hid (Below w.heap.size w w1) := hb1; clear hb1)
      | (go_at_call 31; refine (eall_any p _ _ (HM.out.below HB1.out).cell).mono ?_; rintro e w2 ⟨rfl, rfl⟩)
      | fail)
    obtain ⟨d, hd⟩ : ∃ d, d = j - i := ⟨_, rfl⟩
    rw [← hd] at HD HS ⊢
    have hd900 : (d : Int) ≤ 1000 := by omega
    clear hd
    go_loopw [9, 25] (fun s9 s25 wr => ∃ (k : Nat) (ax : Option Addr) (nx cx : Nat), k ≤ d ∧ s9 = .slice ax nx cx ∧ s25 = .int .i64 (k : Int) ∧ Hid (RowE pcE wr w.heap.size 35 (.slice ax nx cx) (rangeB (mid.take k) a b) ∧ Below w.heap.size w wr)) (fun _ s25 _ => d - (intOf s25).toNat)
    case atStart => exact ⟨0, none, 0, 0, Nat.zero_le _, rfl, rfl, ⟨rowE_nil pcE _ _ _, HB1.out⟩⟩
    case round =>
      obtain ⟨k, ax, nx, cx, hk, rfl, rfl, HI⟩ := hrel
      by_cases hlt : k < d
      · have hki : (k : Int) < (d : Int) := by omega
        have hk0 : (0 : Int) ≤ (k : Int) := by omega
        have hkm : k < mid.length := by have := HD.out; omega
        obtain ⟨b2, off2, e, hnn, hB2, hcc⟩ := pc_cells (HS.out.below HI.out.2) (by omega)
        injection e with e
        injection e with e1 e2
        subst e1 e2
        obtain ⟨c0, c1, c2, c3⟩ := hcc k hkm
        have HCL : Hid (rangeB (mid.take (k + 1)) a b = rangeB (mid.take k) a b ++ rng1 a b mid[k]) := rng_snoc a b mid k hkm
        have hfit := HMID.out mid[k] (List.getElem_mem _)
        obtain ⟨x, hx⟩ : ∃ x, x = mid[k] := ⟨_, rfl⟩
        rw [← hx] at c0 c1 c2 c3 HCL hfit
        clear hx hcc hnn
        obtain ⟨⟨f0, f1, f2, f3, f4, f5, f6⟩, o1, o2⟩ := hfit
        obtain ⟨po, pl, pg, pp⟩ := x
        simp only at c0 c1 c2 c3 f0 f1 f2 f3 f4 f5 f6 o1 o2
        obtain ⟨lo, hlo⟩ : ∃ z, z = max po a := ⟨_, rfl⟩
        obtain ⟨hi, hhi⟩ : ∃ z, z = min (po + pl) b := ⟨_, rfl⟩
        have HR1 : Hid (rng1 a b ⟨po, pl, pg, pp⟩ = [(⟨lo, hi - lo, pg, pp + lo - po⟩ : Pc)]) := by
          show _ = _
          unfold rng1 Pc.sub
          simp only
          rw [← hlo, ← hhi, if_pos (by omega)]
        have hmax : ∀ (W : World) ats ty, (Builtin.max_ ats ty #[.int .i64 po, .int .i64 a]).run Try.prog W = .ok (.int .i64 lo) W := fun W ats ty => by
          rw [hlo]
          simp [Builtin.max_, Builtin.max2]
          omega
        have hmin : ∀ (W : World) ats ty, (Builtin.min_ ats ty #[.int .i64 (po + pl), .int .i64 b]).run Try.prog W = .ok (.int .i64 hi) W := fun W ats ty => by
          rw [hhi]
          simp [Builtin.min_, Builtin.min2]
          omega
        have HEp : Hid (∀ n : World, Calls Try.prog 36 #[.agg #[.int .i64 po, .int .i64 pl, .int .i64 pg, .int .i64 pp]] n fun e w' => e = .returned (.int .i64 (po + pl)) ∧ Below n.heap.size n w') := fun n => epend_any po pl pg pp n f0 (by omega) (by omega) (by omega)
        have HPT : Hid (∀ n : World, Calls Try.prog 35 #[.agg #[.int .i64 po, .int .i64 pl, .int .i64 pg, .int .i64 pp], .int .i64 lo, .int .i64 hi] n fun e w' => e = .returned (.agg #[.int .i64 lo, .int .i64 (hi - lo), .int .i64 pg, .int .i64 (pp + lo - po)]) ∧ Below n.heap.size n w') := fun n => epart_any po pl pg pp lo hi n f0 (by omega) f5 (by omega) (by omega) (by omega) (by omega) (by omega)
        have HLN : Hid ((rangeB (mid.take k) a b).length + 1 ≤ maxLen ∧ ((rangeB (mid.take k) a b).length + 1) * 32 ≤ 140737488355328) := by
          have h1 := rng_len (mid.take k) a b
          have h2 : (mid.take k).length ≤ k := by rw [List.length_take]; omega
          exact ⟨by unfold maxLen; omega, by omega⟩
        obtain ⟨W1, hW1⟩ : ∃ z, z = wr.alloc (.cells #[.int .i64 po, .int .i64 pl, .int .i64 pg, .int .i64 pp] 35) := ⟨_, rfl⟩
        have HW1 : Hid (One9 w W1 wr.heap.size po pl pg pp ∧ Below wr.heap.size wr W1) := by
          have hh : W1.heap[wr.heap.size]? = some (.cells #[.int .i64 po, .int .i64 pl, .int .i64 pg, .int .i64 pp] 35) := by rw [hW1]; exact (MapKept.heap_alloc wr _).1
          have hb : Below wr.heap.size wr W1 := by rw [hW1]; exact bel_newG _ _
          exact ⟨⟨blk_cell hh rfl, blk_cell hh rfl, blk_cell hh rfl, blk_cell hh rfl, bel_tr HI.out.2 hb, blk_lt hh⟩, hb⟩
        clear hlo hhi
        go_wp2_with fail
        rw [← hW1]
        clear hW1 c0 c1 c2 c3
        go_region_held3 (fun X => X.cell? ⟨wr.heap.size, 0, none⟩ = some (.int .i64 po) ∧ X.cell? ⟨wr.heap.size, 1, none⟩ = some (.int .i64 pl) ∧ X.cell? ⟨wr.heap.size, 2, none⟩ = some (.int .i64 pg) ∧ X.cell? ⟨wr.heap.size, 3, none⟩ = some (.int .i64 pp) ∧ Hid (Below w.heap.size w X ∧ wr.heap.size < X.heap.size)) (first | assumption | exact HW1.out.1 | exact one_keep HW1.out.1 (bel_drew _) | exact one_keep (by assumption) (bel_newG _ _) | exact one_keep (by assumption) (by assumption))
          (first
            | (go_at_call 36; refine (HEp.out _).mono ?_; rintro e w2 ⟨rfl, hb2⟩)
            | (go_at_call 35; refine (HPT.out _).mono ?_; rintro e w3 ⟨rfl, hb3⟩)
            | (refine step_appE (E := pcE) Try.underlying41 infoEp rfl (by rfl) (.tmp 29) (.tmp 40) (by rfl) w.heap.size (.slice ax nx cx) (rangeB (mid.take k) a b) (by rfl) (by exact HI.out.1.below (bel_tr HW1.out.2 (bel_tr (bel_tr (bel_drew W1) (bel_tr hb2 hb3)) (bel_newG _ _)))) (.slice (some ⟨w3.heap.size, 0, none⟩) 1 1) [(⟨lo, hi - lo, pg, pp + lo - po⟩ : Pc)] (by rfl) (by exact seesE_one pcE w3 _ (⟨lo, hi - lo, pg, pp + lo - po⟩ : Pc) w3.heap.size rfl) HLN.out.1 HLN.out.2 (by exact Nat.le_trans HI.out.2.size (bel_tr HW1.out.2 (bel_tr (bel_tr (bel_drew W1) (bel_tr hb2 hb3)) (bel_newG _ _))).size) ?_; intro v4 w4 k1 k2; have hbel4 : Below wr.heap.size wr (w3.alloc (.cells #[.int .i64 lo, .int .i64 (hi - lo), .int .i64 pg, .int .i64 (pp + lo - po)] 35)) := bel_tr HW1.out.2 (bel_tr (bel_tr (bel_drew W1) (bel_tr hb2 hb3)) (bel_newG _ _)); have hT4 : One9 w w4 wr.heap.size po pl pg pp := one_row (one_keep HW1.out.1 (bel_tr (bel_tr (bel_drew W1) (bel_tr hb2 hb3)) (bel_newG w3 _))) HI.out.1 HI.out.2 (Nat.le_refl _) hbel4 k2; obtain ⟨a4, c4, hv4⟩ := k1.sees.form; obtain ⟨n4, hn4⟩ : ∃ z, z = (rangeB (mid.take k) a b ++ [(⟨lo, hi - lo, pg, pp + lo - po⟩ : Pc)]).length := ⟨_, rfl⟩; rw [← hn4] at hv4; clear hn4; subst hv4)
            | fail)
        all_goals (
          have HK4 : Hid (RowE pcE w4 w.heap.size 35 (.slice a4 n4 c4) (rangeB (mid.take (k + 1)) a b) ∧ Below w.heap.size w w4) := ⟨by rw [HCL.out, HR1.out]; exact k1, one_bel hT4⟩
          clear k1 k2
          go_wp2_with fail
          go_roundw
          case rel => exact ⟨k + 1, _, _, _, by omega, rfl, by go_num, HK4.out.1, HK4.out.2⟩
          case measure => simp [intOf]; omega)
      · have hkd : k = d := by omega
        subst hkd
        have hki : ¬ (k : Int) < (k : Int) := by omega
        go_wp2
        go_ret
        have h1 := HI.out.1
        rw [List.take_of_length_le (by have := HD.out; omega), ← HX.out] at h1
        exact ⟨_, rfl, h1, HI.out.2⟩
theorem erange_any (p B : Nat) (a b : Int) (v : Value) (ps : List Pc) (w : World) (hm : EMap w p B v ps) (hr : Rise ps) (hf : Fits ps) (hl : ps.length ≤ 1000) :
    Calls Try.prog 16 #[.pointer (some ⟨p, 0, none⟩), .int .i64 a, .int .i64 b] w fun e w' => ∃ v', e = .returned v' ∧ RowE pcE w' w.heap.size 35 v' (rangeB ps a b) ∧ Below w.heap.size w w' := by
  by_cases hab : a < b
  · exact erange_some p B a b v ps w hm hr hf hl hab
  · refine (erange_none p B a b v ps w hm (by omega)).mono ?_
    rintro e w' ⟨rfl, hb⟩
    rw [rng_none (l := ps) fun x hx => by omega]
    exact ⟨_, rfl, rowE_nil pcE _ _ _, hb⟩
end Go.Proofs.Ythdmclhccbjgoaa
