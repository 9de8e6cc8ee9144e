/- dolmenref9.Map.Range. -/
import Derived.Test.YthdmclhccbjgoaaRClear
namespace Go.Proofs.Ythdmclhccbjgoaa
open Go.RowKit Kit
set_option linter.unusedVariables false

theorem range_snoc (fr tu : Int) (ps : List Pc) (i : Nat) (hi : i < ps.length) : rangeB (ps.take (i + 1)) fr tu = rangeB (ps.take i) fr tu ++ (if max ps[i].off fr < min (ps[i].off + ps[i].len) tu then [ps[i].sub (max ps[i].off fr) (min (ps[i].off + ps[i].len) tu)] else []) := by
  rw [List.take_succ_eq_append_getElem hi]
  unfold rangeB
  rw [List.flatMap_append]
  simp
theorem range_len (l : List Pc) (fr tu : Int) : (rangeB l fr tu).length ≤ l.length := by
  induction l with
  | nil => simp [rangeB]
  | cons p l ih =>
    unfold rangeB at *
    rw [List.flatMap_cons, List.length_append, List.length_cons]
    split <;> simp only [List.length_cons, List.length_nil] <;> omega
set_option maxRecDepth 4000 in
set_option maxHeartbeats 4000000 in
theorem rrange_any (q : Nat) (fr tu : Int) (ps : List Pc) (w : World) (hm : RMap w q ps) (hl : ps.length ≤ 1000) (hf : Fits ps) :
    Calls Try.prog 17 #[.pointer (some ⟨q, 0, none⟩), .int .i64 fr, .int .i64 tu] w fun e w' => ∃ v', e = .returned v' ∧ RowE pcE w' w.heap.size 32 v' (rangeB ps fr tu) ∧ Below w.heap.size w w' := by
  obtain ⟨v, hq, hs⟩ := hm
  obtain ⟨ao, cap, rfl⟩ := hs.form
  have HQ : Hid (w.heap[q]? = some (.cells #[.slice ao ps.length cap] 29)) := hq
  have HS : Hid (SeesE pcE w (.slice ao ps.length cap) ps) := hs
  have HF : Hid (Fits ps) := hf
  have hli : (ps.length : Int) ≤ 1000 := by omega
  clear hq hs hf
  go_enter Try.func17, Try.ntmps17
  go_wp2
  go_loopw [7, 8] (fun s7 s8 wr => ∃ (i : Nat) (ax : Option Addr) (nx cx : Nat), i ≤ ps.length ∧ s7 = .slice ax nx cx ∧ s8 = .int .i64 (i : Int) ∧ Hid (RowE pcE wr w.heap.size 32 (.slice ax nx cx) (rangeB (ps.take i) fr tu) ∧ Below w.heap.size w wr)) (fun _ s8 _ => ps.length - (intOf s8).toNat)
  case atStart => exact ⟨0, none, 0, 0, Nat.zero_le _, rfl, rfl, ⟨rowE_nil pcE w _ _, Below.refl _ _⟩⟩
  case round =>
    obtain ⟨i, ax, nx, cx, hi, rfl, rfl, HI⟩ := hrel
    have q0 : wr.cell? ⟨q, 0, none⟩ = some (.slice ao ps.length cap) := blk_cell (blk_below HI.out.2 HQ.out) rfl
    by_cases hlt : i < ps.length
    · have hli2 : (i : Int) < (ps.length : Int) := by omega
      have hi0 : (0 : Int) ≤ (i : Int) := by omega
      obtain ⟨B, off, e, hnn, hB, hc⟩ := pc_cells (HS.out.below HI.out.2) (by omega)
      clear hnn
      subst e
      obtain ⟨c0, c1, c2, c3⟩ := hc i hlt
      obtain ⟨p, hp⟩ : ∃ p, p = ps[i] := ⟨_, rfl⟩
      have HC := range_snoc fr tu ps i hlt
      have hfp : Fit p := by rw [hp]; exact HF.out _ (List.getElem_mem _)
      rw [← hp] at c0 c1 c2 c3 HC
      clear hp hc
      obtain ⟨f0, f1, f2, f3, f4, f5, f6⟩ := hfp
      obtain ⟨po, pl, pg, pp⟩ := p
      simp only at c0 c1 c2 c3 f0 f1 f2 f3 f4 f5 f6 HC
      have HC : Hid (rangeB (ps.take (i + 1)) fr tu = _) := HC
      have HLN : Hid ((rangeB (ps.take i) fr tu).length ≤ 1000) := by
        have h1 := range_len (ps.take i) fr tu
        have h2 : (ps.take i).length ≤ ps.length := by rw [List.length_take]; omega
        show _ ≤ _
        omega
      have hbx : (wr.alloc (.cells #[.int .i64 po, .int .i64 pl, .int .i64 pg, .int .i64 pp] 32)).heap[wr.heap.size]? = some (.cells #[.int .i64 po, .int .i64 pl, .int .i64 pg, .int .i64 pp] 32) := (MapKept.heap_alloc wr _).1
      obtain ⟨w1, hw1⟩ : ∃ z, z = wr.alloc (.cells #[.int .i64 po, .int .i64 pl, .int .i64 pg, .int .i64 pp] 32) := ⟨_, rfl⟩
      rw [← hw1] at hbx
      have HW1 : Hid (Below wr.heap.size wr w1) := by rw [hw1]; exact bel_newG _ _
      have b0 : w1.cell? ⟨wr.heap.size, 0, none⟩ = some (.int .i64 po) := blk_cell hbx rfl
      have b1 : w1.cell? ⟨wr.heap.size, 1, none⟩ = some (.int .i64 pl) := blk_cell hbx rfl
      have b2 : w1.cell? ⟨wr.heap.size, 2, none⟩ = some (.int .i64 pg) := blk_cell hbx rfl
      have b3 : w1.cell? ⟨wr.heap.size, 3, none⟩ = some (.int .i64 pp) := blk_cell hbx rfl
      have bl : wr.heap.size < w1.heap.size := blk_lt hbx
      clear hbx
      go_upto_region 6 with fail
      rw [← hw1]
      clear hw1 c0 c1 c2 c3
      by_cases h1 : po < fr
      · by_cases h2 : tu < po + pl
        · by_cases h3 : fr < tu
          · have HC2 : Hid (rangeB (ps.take (i + 1)) fr tu = rangeB (ps.take i) fr tu ++ [(⟨fr, tu - fr, pg, pp + fr - po⟩ : Pc)]) := by
              show _ = _
              rw [HC.out, show max po fr = fr by omega, show min (po + pl) tu = tu by omega, if_pos h3]
              simp [Pc.sub]
            obtain ⟨n1, hn1⟩ : ∃ z, z = ((rangeB (ps.take i) fr tu) ++ [(⟨fr, tu - fr, pg, pp + fr - po⟩ : Pc)]).length := ⟨_, rfl⟩
            have HQ1 : Hid (n1 = _) := hn1
            clear hn1
            go_upto_region 9 with fail
            have HR1 : Hid (RowE pcE (w1.alloc (.cells #[.int .i64 fr, .int .i64 (tu - fr), .int .i64 pg, .int .i64 (pp + fr - po)] 32)) w.heap.size 32 (.slice ax nx cx) (rangeB (ps.take i) fr tu)) := (HI.out.1.below HW1.out).below (bel_newG _ _)
            have HS1 : Hid (SeesE pcE (w1.alloc (.cells #[.int .i64 fr, .int .i64 (tu - fr), .int .i64 pg, .int .i64 (pp + fr - po)] 32)) (.slice (some ⟨w1.heap.size, 0, none⟩) 1 1) [(⟨fr, tu - fr, pg, pp + fr - po⟩ : Pc)]) := seesE_one pcE w1 32 (⟨fr, tu - fr, pg, pp + fr - po⟩ : Pc) _ rfl
            have HN1 : Hid ((rangeB (ps.take i) fr tu).length + [(⟨fr, tu - fr, pg, pp + fr - po⟩ : Pc)].length ≤ maxLen ∧ ((rangeB (ps.take i) fr tu).length + [(⟨fr, tu - fr, pg, pp + fr - po⟩ : Pc)].length) * 32 ≤ 140737488355328 ∧ w.heap.size ≤ (w1.alloc (.cells #[.int .i64 fr, .int .i64 (tu - fr), .int .i64 pg, .int .i64 (pp + fr - po)] 32)).heap.size) := by
              have h1 := HLN.out
              have h2 := HI.out.2.size
              have h3 := HW1.out.size
              exact ⟨by simp; unfold maxLen; omega, by simp; omega, by simp; omega⟩
            go_wp2_with (at_builtin; refine wpList_appE (E := pcE) Try.underlying27 infoPc rfl rfl _ _ rfl w.heap.size _ (rangeB (ps.take i) fr tu) rfl HR1.out _ [(⟨fr, tu - fr, pg, pp + fr - po⟩ : Pc)] rfl HS1.out HN1.out.1 HN1.out.2.1 HN1.out.2.2 ?_; intro v1 u1w k1 k2; have HK1 : Hid (RowE pcE u1w w.heap.size 32 _ ((rangeB (ps.take i) fr tu) ++ [(⟨fr, tu - fr, pg, pp + fr - po⟩ : Pc)])) := k1; have HB1 : Hid (Below w.heap.size w u1w) := (row_kept HI.out.1 (bel_tr HW1.out (bel_newG w1 (.cells #[.int .i64 fr, .int .i64 (tu - fr), .int .i64 pg, .int .i64 (pp + fr - po)] 32))) k2).2 HI.out.2 HI.out.2.size; obtain ⟨av1, cv1, hv1⟩ := k1.sees.form; rw [← HQ1.out] at hv1; subst hv1; clear k1 k2 HR1 HS1 HN1)
            clear b0 b1 b2 b3 bl
            go_wp2
            go_roundw
            case rel => exact ⟨i + 1, _, _, _, by omega, rfl, by go_num, ⟨by rw [HC2.out]; exact HK1.out, HB1.out⟩⟩
            case measure => simp [intOf]; omega
          · have HC2 : Hid (rangeB (ps.take (i + 1)) fr tu = rangeB (ps.take i) fr tu) := by
              show _ = _
              rw [HC.out, show max po fr = fr by omega, show min (po + pl) tu = tu by omega, if_neg h3]
              simp
            go_wp2
            go_roundw
            case rel => exact ⟨i + 1, _, _, _, by omega, rfl, by go_num, ⟨by rw [HC2.out]; exact HI.out.1.below HW1.out, bel_tr HI.out.2 HW1.out⟩⟩
            case measure => simp [intOf]; omega
        · by_cases h3 : fr < po + pl
          · have HC2 : Hid (rangeB (ps.take (i + 1)) fr tu = rangeB (ps.take i) fr tu ++ [(⟨fr, po + pl - fr, pg, pp + fr - po⟩ : Pc)]) := by
              show _ = _
              rw [HC.out, show max po fr = fr by omega, show min (po + pl) tu = po + pl by omega, if_pos h3]
              simp [Pc.sub]
            obtain ⟨n1, hn1⟩ : ∃ z, z = ((rangeB (ps.take i) fr tu) ++ [(⟨fr, po + pl - fr, pg, pp + fr - po⟩ : Pc)]).length := ⟨_, rfl⟩
            have HQ1 : Hid (n1 = _) := hn1
            clear hn1
            go_upto_region 9 with fail
            have HR1 : Hid (RowE pcE (w1.alloc (.cells #[.int .i64 fr, .int .i64 (po + pl - fr), .int .i64 pg, .int .i64 (pp + fr - po)] 32)) w.heap.size 32 (.slice ax nx cx) (rangeB (ps.take i) fr tu)) := (HI.out.1.below HW1.out).below (bel_newG _ _)
            have HS1 : Hid (SeesE pcE (w1.alloc (.cells #[.int .i64 fr, .int .i64 (po + pl - fr), .int .i64 pg, .int .i64 (pp + fr - po)] 32)) (.slice (some ⟨w1.heap.size, 0, none⟩) 1 1) [(⟨fr, po + pl - fr, pg, pp + fr - po⟩ : Pc)]) := seesE_one pcE w1 32 (⟨fr, po + pl - fr, pg, pp + fr - po⟩ : Pc) _ rfl
            have HN1 : Hid ((rangeB (ps.take i) fr tu).length + [(⟨fr, po + pl - fr, pg, pp + fr - po⟩ : Pc)].length ≤ maxLen ∧ ((rangeB (ps.take i) fr tu).length + [(⟨fr, po + pl - fr, pg, pp + fr - po⟩ : Pc)].length) * 32 ≤ 140737488355328 ∧ w.heap.size ≤ (w1.alloc (.cells #[.int .i64 fr, .int .i64 (po + pl - fr), .int .i64 pg, .int .i64 (pp + fr - po)] 32)).heap.size) := by
              have h1 := HLN.out
              have h2 := HI.out.2.size
              have h3 := HW1.out.size
              exact ⟨by simp; unfold maxLen; omega, by simp; omega, by simp; omega⟩
            go_wp2_with (at_builtin; refine wpList_appE (E := pcE) Try.underlying27 infoPc rfl rfl _ _ rfl w.heap.size _ (rangeB (ps.take i) fr tu) rfl HR1.out _ [(⟨fr, po + pl - fr, pg, pp + fr - po⟩ : Pc)] rfl HS1.out HN1.out.1 HN1.out.2.1 HN1.out.2.2 ?_; intro v1 u1w k1 k2; have HK1 : Hid (RowE pcE u1w w.heap.size 32 _ ((rangeB (ps.take i) fr tu) ++ [(⟨fr, po + pl - fr, pg, pp + fr - po⟩ : Pc)])) := k1; have HB1 : Hid (Below w.heap.size w u1w) := (row_kept HI.out.1 (bel_tr HW1.out (bel_newG w1 (.cells #[.int .i64 fr, .int .i64 (po + pl - fr), .int .i64 pg, .int .i64 (pp + fr - po)] 32))) k2).2 HI.out.2 HI.out.2.size; obtain ⟨av1, cv1, hv1⟩ := k1.sees.form; rw [← HQ1.out] at hv1; subst hv1; clear k1 k2 HR1 HS1 HN1)
            clear b0 b1 b2 b3 bl
            go_wp2
            go_roundw
            case rel => exact ⟨i + 1, _, _, _, by omega, rfl, by go_num, ⟨by rw [HC2.out]; exact HK1.out, HB1.out⟩⟩
            case measure => simp [intOf]; omega
          · have HC2 : Hid (rangeB (ps.take (i + 1)) fr tu = rangeB (ps.take i) fr tu) := by
              show _ = _
              rw [HC.out, show max po fr = fr by omega, show min (po + pl) tu = po + pl by omega, if_neg h3]
              simp
            go_wp2
            go_roundw
            case rel => exact ⟨i + 1, _, _, _, by omega, rfl, by go_num, ⟨by rw [HC2.out]; exact HI.out.1.below HW1.out, bel_tr HI.out.2 HW1.out⟩⟩
            case measure => simp [intOf]; omega
      · by_cases h2 : tu < po + pl
        · by_cases h3 : po < tu
          · have HC2 : Hid (rangeB (ps.take (i + 1)) fr tu = rangeB (ps.take i) fr tu ++ [(⟨po, tu - po, pg, pp⟩ : Pc)]) := by
              show _ = _
              rw [HC.out, show max po fr = po by omega, show min (po + pl) tu = tu by omega, if_pos h3]
              simp [Pc.sub]
            obtain ⟨n1, hn1⟩ : ∃ z, z = ((rangeB (ps.take i) fr tu) ++ [(⟨po, tu - po, pg, pp⟩ : Pc)]).length := ⟨_, rfl⟩
            have HQ1 : Hid (n1 = _) := hn1
            clear hn1
            go_upto_region 9 with fail
            have HR1 : Hid (RowE pcE (w1.alloc (.cells #[.int .i64 po, .int .i64 (tu - po), .int .i64 pg, .int .i64 pp] 32)) w.heap.size 32 (.slice ax nx cx) (rangeB (ps.take i) fr tu)) := (HI.out.1.below HW1.out).below (bel_newG _ _)
            have HS1 : Hid (SeesE pcE (w1.alloc (.cells #[.int .i64 po, .int .i64 (tu - po), .int .i64 pg, .int .i64 pp] 32)) (.slice (some ⟨w1.heap.size, 0, none⟩) 1 1) [(⟨po, tu - po, pg, pp⟩ : Pc)]) := seesE_one pcE w1 32 (⟨po, tu - po, pg, pp⟩ : Pc) _ rfl
            have HN1 : Hid ((rangeB (ps.take i) fr tu).length + [(⟨po, tu - po, pg, pp⟩ : Pc)].length ≤ maxLen ∧ ((rangeB (ps.take i) fr tu).length + [(⟨po, tu - po, pg, pp⟩ : Pc)].length) * 32 ≤ 140737488355328 ∧ w.heap.size ≤ (w1.alloc (.cells #[.int .i64 po, .int .i64 (tu - po), .int .i64 pg, .int .i64 pp] 32)).heap.size) := by
              have h1 := HLN.out
              have h2 := HI.out.2.size
              have h3 := HW1.out.size
              exact ⟨by simp; unfold maxLen; omega, by simp; omega, by simp; omega⟩
            go_wp2_with (at_builtin; refine wpList_appE (E := pcE) Try.underlying27 infoPc rfl rfl _ _ rfl w.heap.size _ (rangeB (ps.take i) fr tu) rfl HR1.out _ [(⟨po, tu - po, pg, pp⟩ : Pc)] rfl HS1.out HN1.out.1 HN1.out.2.1 HN1.out.2.2 ?_; intro v1 u1w k1 k2; have HK1 : Hid (RowE pcE u1w w.heap.size 32 _ ((rangeB (ps.take i) fr tu) ++ [(⟨po, tu - po, pg, pp⟩ : Pc)])) := k1; have HB1 : Hid (Below w.heap.size w u1w) := (row_kept HI.out.1 (bel_tr HW1.out (bel_newG w1 (.cells #[.int .i64 po, .int .i64 (tu - po), .int .i64 pg, .int .i64 pp] 32))) k2).2 HI.out.2 HI.out.2.size; obtain ⟨av1, cv1, hv1⟩ := k1.sees.form; rw [← HQ1.out] at hv1; subst hv1; clear k1 k2 HR1 HS1 HN1)
            clear b0 b1 b2 b3 bl
            go_wp2
            go_roundw
            case rel => exact ⟨i + 1, _, _, _, by omega, rfl, by go_num, ⟨by rw [HC2.out]; exact HK1.out, HB1.out⟩⟩
            case measure => simp [intOf]; omega
          · have HC2 : Hid (rangeB (ps.take (i + 1)) fr tu = rangeB (ps.take i) fr tu) := by
              show _ = _
              rw [HC.out, show max po fr = po by omega, show min (po + pl) tu = tu by omega, if_neg h3]
              simp
            go_wp2
            go_roundw
            case rel => exact ⟨i + 1, _, _, _, by omega, rfl, by go_num, ⟨by rw [HC2.out]; exact HI.out.1.below HW1.out, bel_tr HI.out.2 HW1.out⟩⟩
            case measure => simp [intOf]; omega
        · by_cases h3 : po < po + pl
          · have HC2 : Hid (rangeB (ps.take (i + 1)) fr tu = rangeB (ps.take i) fr tu ++ [(⟨po, po + pl - po, pg, pp⟩ : Pc)]) := by
              show _ = _
              rw [HC.out, show max po fr = po by omega, show min (po + pl) tu = po + pl by omega, if_pos h3]
              simp [Pc.sub]
            obtain ⟨n1, hn1⟩ : ∃ z, z = ((rangeB (ps.take i) fr tu) ++ [(⟨po, po + pl - po, pg, pp⟩ : Pc)]).length := ⟨_, rfl⟩
            have HQ1 : Hid (n1 = _) := hn1
            clear hn1
            go_upto_region 9 with fail
            have HR1 : Hid (RowE pcE (w1.alloc (.cells #[.int .i64 po, .int .i64 (po + pl - po), .int .i64 pg, .int .i64 pp] 32)) w.heap.size 32 (.slice ax nx cx) (rangeB (ps.take i) fr tu)) := (HI.out.1.below HW1.out).below (bel_newG _ _)
            have HS1 : Hid (SeesE pcE (w1.alloc (.cells #[.int .i64 po, .int .i64 (po + pl - po), .int .i64 pg, .int .i64 pp] 32)) (.slice (some ⟨w1.heap.size, 0, none⟩) 1 1) [(⟨po, po + pl - po, pg, pp⟩ : Pc)]) := seesE_one pcE w1 32 (⟨po, po + pl - po, pg, pp⟩ : Pc) _ rfl
            have HN1 : Hid ((rangeB (ps.take i) fr tu).length + [(⟨po, po + pl - po, pg, pp⟩ : Pc)].length ≤ maxLen ∧ ((rangeB (ps.take i) fr tu).length + [(⟨po, po + pl - po, pg, pp⟩ : Pc)].length) * 32 ≤ 140737488355328 ∧ w.heap.size ≤ (w1.alloc (.cells #[.int .i64 po, .int .i64 (po + pl - po), .int .i64 pg, .int .i64 pp] 32)).heap.size) := by
              have h1 := HLN.out
              have h2 := HI.out.2.size
              have h3 := HW1.out.size
              exact ⟨by simp; unfold maxLen; omega, by simp; omega, by simp; omega⟩
            go_wp2_with (at_builtin; refine wpList_appE (E := pcE) Try.underlying27 infoPc rfl rfl _ _ rfl w.heap.size _ (rangeB (ps.take i) fr tu) rfl HR1.out _ [(⟨po, po + pl - po, pg, pp⟩ : Pc)] rfl HS1.out HN1.out.1 HN1.out.2.1 HN1.out.2.2 ?_; intro v1 u1w k1 k2; have HK1 : Hid (RowE pcE u1w w.heap.size 32 _ ((rangeB (ps.take i) fr tu) ++ [(⟨po, po + pl - po, pg, pp⟩ : Pc)])) := k1; have HB1 : Hid (Below w.heap.size w u1w) := (row_kept HI.out.1 (bel_tr HW1.out (bel_newG w1 (.cells #[.int .i64 po, .int .i64 (po + pl - po), .int .i64 pg, .int .i64 pp] 32))) k2).2 HI.out.2 HI.out.2.size; obtain ⟨av1, cv1, hv1⟩ := k1.sees.form; rw [← HQ1.out] at hv1; subst hv1; clear k1 k2 HR1 HS1 HN1)
            clear b0 b1 b2 b3 bl
            go_wp2
            go_roundw
            case rel => exact ⟨i + 1, _, _, _, by omega, rfl, by go_num, ⟨by rw [HC2.out]; exact HK1.out, HB1.out⟩⟩
            case measure => simp [intOf]; omega
          · exact absurd (by omega) h3
    · have hli2 : ¬ (i : Int) < (ps.length : Int) := by omega
      have ei : i = ps.length := by omega
      subst ei
      have HE : Hid (RowE pcE wr w.heap.size 32 (.slice ax nx cx) (rangeB ps fr tu) ∧ Below w.heap.size w wr) := by
        have := HI.out
        rw [List.take_length] at this
        exact this
      go_wp2
      go_ret
      exact ⟨_, rfl, HE.out⟩
end Go.Proofs.Ythdmclhccbjgoaa
