/- dolmenref9.Map.clear: a hole. -/
import Derived.Test.YthdmclhccbjgoaaProg
import Derived.Test.YthdmclhccbjgoaaKitTurn
import Derived.Test.YthdmclhccbjgoaaMExt3
import Derived.Deep.RegionHeld3
import Derived.Deep.RegionWith
import Derived.Deep.DeepCutAuto
namespace Go.Proofs.Ythdmclhccbjgoaa
open Go.RowKit Kit
set_option linter.unusedVariables false

theorem infoPc : (Try.prog.info? 32).map (fun i => (i.zero, i.size, i.bytes)) = some (some (.agg #[.int .i64 0, .int .i64 0, .int .i64 0, .int .i64 0]), 4, 32) := by kernel_rfl
/-- The document's map: a variable in block q shows its pieces. -/
def RMap (w : World) (q : Nat) (ps : List Pc) : Prop := ∃ v, w.heap[q]? = some (.cells #[v] 29) ∧ SeesE pcE w v ps
theorem pc_cells {w : World} {ao : Option Addr} {n cap : Nat} {ps : List Pc} (h : SeesE pcE w (.slice ao n cap) ps) (h0 : 0 < ps.length) : ∃ b off, ao = some ⟨b, off, none⟩ ∧ n = ps.length ∧ b < w.heap.size ∧ ∀ (i : Nat) (hi : i < ps.length), w.cell? ⟨b, off + i * 4, none⟩ = some (.int .i64 ps[i].off) ∧ w.cell? ⟨b, off + i * 4 + 1, none⟩ = some (.int .i64 ps[i].len) ∧ w.cell? ⟨b, off + i * 4 + 2, none⟩ = some (.int .i64 ps[i].page) ∧ w.cell? ⟨b, off + i * 4 + 3, none⟩ = some (.int .i64 ps[i].pos) := by
  obtain ⟨b, off, e, e2, hl, hh⟩ := h.cells h0
  exact ⟨b, off, e, e2, hl, fun i hi => ⟨hh i hi 0 _ rfl, hh i hi 1 _ rfl, hh i hi 2 _ rfl, hh i hi 3 _ rfl⟩⟩
theorem clear_snoc (a b : Int) (ps : List Pc) (i : Nat) (hi : i < ps.length) : clearB a b (ps.take (i + 1)) = clearB a b (ps.take i) ++ clear1 a b ps[i] := by
  rw [List.take_succ_eq_append_getElem hi]
  unfold clearB
  rw [List.flatMap_append]
  simp
theorem clear_take_len {a b : Int} (hab : a ≤ b) {ps : List Pc} (h : Rise ps) (i : Nat) : (clearB a b (ps.take i)).length ≤ ps.length + 1 := by
  have h1 : Rise (ps.take i) := ⟨fun p hp => h.1 p (List.mem_of_mem_take hp), h.2.sublist (List.take_sublist _ _)⟩
  have := clear_len hab h1
  have h2 : (ps.take i).length ≤ ps.length := by rw [List.length_take]; omega
  omega
set_option maxRecDepth 4000 in
set_option maxHeartbeats 4000000 in
theorem rclear_any (q : Nat) (a b : Int) (ps : List Pc) (w : World) (hm : RMap w q ps) (hl : ps.length ≤ 1000) (hr : Rise ps) (hf : Fits ps) (ha : 0 ≤ a) (hab : a ≤ b) (hb : b ≤ 4294967296) :
    Calls Try.prog 45 #[.pointer (some ⟨q, 0, none⟩), .int .i64 a, .int .i64 b] w fun e w' => e = .returned (.tuple #[]) ∧ ∃ v', w'.heap[q]? = some (.cells #[v'] 29) ∧ RowE pcE w' w.heap.size 32 v' (clearB a b ps) ∧ Turn1 q w w' := by
  obtain ⟨v, hq, hs⟩ := hm
  obtain ⟨ao, cap, rfl⟩ := hs.form
  have HQ : Hid (w.heap[q]? = some (.cells #[.slice ao ps.length cap] 29)) := hq
  have HS : Hid (SeesE pcE w (.slice ao ps.length cap) ps) := hs
  have HF : Hid (Fits ps ∧ Rise ps ∧ a ≤ b) := ⟨hf, hr, hab⟩
  have hli : (ps.length : Int) ≤ 1000 := by omega
  clear hq hs hf hr
  go_enter Try.func45, Try.ntmps45
  go_wp2
  go_loopw [6, 7] (fun s6 s7 wr => ∃ (i : Nat) (ax : Option Addr) (nx cx : Nat), i ≤ ps.length ∧ s6 = .slice ax nx cx ∧ s7 = .int .i64 (i : Int) ∧ Hid (RowE pcE wr w.heap.size 32 (.slice ax nx cx) (clearB a b (ps.take i)) ∧ Below w.heap.size w wr)) (fun _ s7 _ => ps.length - (intOf s7).toNat)
  case atStart => exact ⟨0, none, 0, 0, Nat.zero_le _, rfl, rfl, ⟨rowE_nil pcE w _ _, Below.refl _ _⟩⟩
  case round =>
    obtain ⟨i, ax, nx, cx, hi, rfl, rfl, HI⟩ := hrel
    have q0 : wr.cell? ⟨q, 0, none⟩ = some (.slice ao ps.length cap) := blk_cell (blk_below HI.out.2 HQ.out) rfl
    by_cases hlt : i < ps.length
    · have hli2 : (i : Int) < (ps.length : Int) := by omega
      have hi0 : (0 : Int) ≤ (i : Int) := by omega
      obtain ⟨B, off, e, _, hB, hc⟩ := pc_cells (HS.out.below HI.out.2) (by omega)
      subst e
      obtain ⟨c0, c1, c2, c3⟩ := hc i hlt
      obtain ⟨p, hp⟩ : ∃ p, p = ps[i] := ⟨_, rfl⟩
      have HC : Hid (clearB a b (ps.take (i + 1)) = clearB a b (ps.take i) ++ clear1 a b p) := by rw [hp]; exact clear_snoc a b ps i hlt
      have hfp : Fit p := by rw [hp]; exact HF.out.1 _ (List.getElem_mem _)
      rw [← hp] at c0 c1 c2 c3
      clear hp hc
      obtain ⟨f0, f1, f2, f3, f4, f5, f6⟩ := hfp
      obtain ⟨po, pl, pg, pp⟩ := p
      simp only at c0 c1 c2 c3 f0 f1 f2 f3 f4 f5 f6
      have HLN : Hid ((clearB a b (ps.take i)).length ≤ 1001) := by
        have := clear_take_len HF.out.2.2 HF.out.2.1 i
        show _ ≤ _
        omega
      have hbx : (wr.alloc (.cells #[.int .i64 po, .int .i64 pl, .int .i64 pg, .int .i64 pp] 32)).heap[wr.heap.size]? = some (.cells #[.int .i64 po, .int .i64 pl, .int .i64 pg, .int .i64 pp] 32) := (MapKept.heap_alloc wr _).1
      obtain ⟨w1, hw1⟩ : ∃ z, z = wr.alloc (.cells #[.int .i64 po, .int .i64 pl, .int .i64 pg, .int .i64 pp] 32) := ⟨_, rfl⟩
      rw [← hw1] at hbx
      have HW1 : Hid (Below wr.heap.size wr w1 ∧ w1.heap[wr.heap.size]? = some (.cells #[.int .i64 po, .int .i64 pl, .int .i64 pg, .int .i64 pp] 32)) := ⟨by rw [hw1]; exact bel_newG _ _, hbx⟩
      have HZ1 : Hid (w.heap.size ≤ w1.heap.size) := Nat.le_trans HI.out.2.size HW1.out.1.size
      have b0 : w1.cell? ⟨wr.heap.size, 0, none⟩ = some (.int .i64 po) := blk_cell hbx rfl
      have b1 : w1.cell? ⟨wr.heap.size, 1, none⟩ = some (.int .i64 pl) := blk_cell hbx rfl
      have b2 : w1.cell? ⟨wr.heap.size, 2, none⟩ = some (.int .i64 pg) := blk_cell hbx rfl
      have b3 : w1.cell? ⟨wr.heap.size, 3, none⟩ = some (.int .i64 pp) := blk_cell hbx rfl
      have bl : wr.heap.size < w1.heap.size := blk_lt hbx
      clear hbx
      go_upto_region 5 with fail
      rw [← hw1]
      clear hw1 c0 c1 c2 c3
      by_cases h1 : po < a
      · by_cases h2 : b < po + pl
        · have h3 : a < po + pl := by omega
          have h4 : po < b := by omega
          have HC2 : Hid (clearB a b (ps.take (i + 1)) = (clearB a b (ps.take i) ++ [(⟨po, a - po, pg, pp⟩ : Pc)]) ++ [(⟨b, po + pl - b, pg, pp + b - po⟩ : Pc)]) := by
            show _ = _
            rw [HC.out]
            simp only [clear1, Pc.sub]
            rw [if_pos h1, if_pos h2, show min (po + pl) a = a by omega, show max po b = b by omega]; simp
          obtain ⟨n1, hn1⟩ : ∃ z, z = ((clearB a b (ps.take i)) ++ [(⟨po, a - po, pg, pp⟩ : Pc)]).length := ⟨_, rfl⟩
          have HQ1 : Hid (n1 = _) := hn1
          clear hn1
          go_upto_region 7 with fail
          have HR1 : Hid (RowE pcE (w1.alloc (.cells #[.int .i64 po, .int .i64 (a - po), .int .i64 pg, .int .i64 pp] 32)) w.heap.size 32 (.slice ax nx cx) (clearB a b (ps.take i))) := (HI.out.1.below HW1.out.1).below (bel_newG _ _)
          have HS1 : Hid (SeesE pcE (w1.alloc (.cells #[.int .i64 po, .int .i64 (a - po), .int .i64 pg, .int .i64 pp] 32)) (.slice (some ⟨w1.heap.size, 0, none⟩) 1 1) [(⟨po, a - po, pg, pp⟩ : Pc)]) := seesE_one pcE w1 32 (⟨po, a - po, pg, pp⟩ : Pc) _ rfl
          have HN1 : Hid ((clearB a b (ps.take i)).length + [(⟨po, a - po, pg, pp⟩ : Pc)].length ≤ maxLen ∧ ((clearB a b (ps.take i)).length + [(⟨po, a - po, pg, pp⟩ : Pc)].length) * 32 ≤ 140737488355328 ∧ w.heap.size ≤ (w1.alloc (.cells #[.int .i64 po, .int .i64 (a - po), .int .i64 pg, .int .i64 pp] 32)).heap.size) := by
            have h1 := HLN.out
            have h2 : w.heap.size ≤ w1.heap.size := HZ1.out
            exact ⟨by simp; unfold maxLen; omega, by simp; omega, by simp; omega⟩
          go_upto_region 8 with (at_builtin; refine wpList_appE (E := pcE) Try.underlying27 infoPc rfl rfl _ _ rfl w.heap.size _ (clearB a b (ps.take i)) rfl HR1.out _ [(⟨po, a - po, pg, pp⟩ : Pc)] rfl HS1.out HN1.out.1 HN1.out.2.1 HN1.out.2.2 ?_; intro v1 u1w k1 k2; have HK1 : Hid (RowE pcE u1w w.heap.size 32 _ ((clearB a b (ps.take i)) ++ [(⟨po, a - po, pg, pp⟩ : Pc)])) := k1; have HB1 : Hid (u1w.heap[wr.heap.size]? = some (.cells #[.int .i64 po, .int .i64 pl, .int .i64 pg, .int .i64 pp] 32) ∧ Below w.heap.size w u1w) := (row_kept HI.out.1 (bel_tr HW1.out.1 (bel_newG w1 (.cells #[.int .i64 po, .int .i64 (a - po), .int .i64 pg, .int .i64 pp] 32))) k2).elim fun g1 g2 => ⟨g1 _ _ (Nat.le_refl _) (blk_below (bel_newG _ _) HW1.out.2), g2 HI.out.2 HI.out.2.size⟩; obtain ⟨av1, cv1, hv1⟩ := k1.sees.form; rw [← HQ1.out] at hv1; subst hv1; clear k1 k2 HR1 HS1 HN1)
          clear b0 b1 b2 b3 bl
          have b0 : u1w.cell? ⟨wr.heap.size, 0, none⟩ = some (.int .i64 po) := blk_cell HB1.out.1 rfl
          have b1 : u1w.cell? ⟨wr.heap.size, 1, none⟩ = some (.int .i64 pl) := blk_cell HB1.out.1 rfl
          have b2 : u1w.cell? ⟨wr.heap.size, 2, none⟩ = some (.int .i64 pg) := blk_cell HB1.out.1 rfl
          have b3 : u1w.cell? ⟨wr.heap.size, 3, none⟩ = some (.int .i64 pp) := blk_cell HB1.out.1 rfl
          have bl : wr.heap.size < u1w.heap.size := blk_lt HB1.out.1
          have HZ2 : Hid (w.heap.size ≤ u1w.heap.size) := HB1.out.2.size
          obtain ⟨n2, hn2⟩ : ∃ z, z = ((clearB a b (ps.take i) ++ [(⟨po, a - po, pg, pp⟩ : Pc)]) ++ [(⟨b, po + pl - b, pg, pp + b - po⟩ : Pc)]).length := ⟨_, rfl⟩
          have HQ2 : Hid (n2 = _) := hn2
          clear hn2
          go_upto_region 10 with fail
          have HR2 : Hid (RowE pcE (u1w.alloc (.cells #[.int .i64 b, .int .i64 (po + pl - b), .int .i64 pg, .int .i64 (pp + b - po)] 32)) w.heap.size 32 (.slice av1 n1 cv1) (clearB a b (ps.take i) ++ [(⟨po, a - po, pg, pp⟩ : Pc)])) := HK1.out.below (bel_newG _ _)
          have HS2 : Hid (SeesE pcE (u1w.alloc (.cells #[.int .i64 b, .int .i64 (po + pl - b), .int .i64 pg, .int .i64 (pp + b - po)] 32)) (.slice (some ⟨u1w.heap.size, 0, none⟩) 1 1) [(⟨b, po + pl - b, pg, pp + b - po⟩ : Pc)]) := seesE_one pcE u1w 32 (⟨b, po + pl - b, pg, pp + b - po⟩ : Pc) _ rfl
          have HN2 : Hid ((clearB a b (ps.take i) ++ [(⟨po, a - po, pg, pp⟩ : Pc)]).length + [(⟨b, po + pl - b, pg, pp + b - po⟩ : Pc)].length ≤ maxLen ∧ ((clearB a b (ps.take i) ++ [(⟨po, a - po, pg, pp⟩ : Pc)]).length + [(⟨b, po + pl - b, pg, pp + b - po⟩ : Pc)].length) * 32 ≤ 140737488355328 ∧ w.heap.size ≤ (u1w.alloc (.cells #[.int .i64 b, .int .i64 (po + pl - b), .int .i64 pg, .int .i64 (pp + b - po)] 32)).heap.size) := by
            have h1 := HLN.out
            have h2 : w.heap.size ≤ u1w.heap.size := HZ2.out
            exact ⟨by simp; unfold maxLen; omega, by simp; omega, by simp; omega⟩
          go_wp2_with (at_builtin; refine wpList_appE (E := pcE) Try.underlying27 infoPc rfl rfl _ _ rfl w.heap.size _ (clearB a b (ps.take i) ++ [(⟨po, a - po, pg, pp⟩ : Pc)]) rfl HR2.out _ [(⟨b, po + pl - b, pg, pp + b - po⟩ : Pc)] rfl HS2.out HN2.out.1 HN2.out.2.1 HN2.out.2.2 ?_; intro v2 u2w k1 k2; have HK2 : Hid (RowE pcE u2w w.heap.size 32 _ ((clearB a b (ps.take i) ++ [(⟨po, a - po, pg, pp⟩ : Pc)]) ++ [(⟨b, po + pl - b, pg, pp + b - po⟩ : Pc)])) := k1; have HB2 : Hid (Below w.heap.size w u2w) := (row_kept HK1.out (bel_newG u1w (.cells #[.int .i64 b, .int .i64 (po + pl - b), .int .i64 pg, .int .i64 (pp + b - po)] 32)) k2).2 HB1.out.2 HB1.out.2.size; obtain ⟨av2, cv2, hv2⟩ := k1.sees.form; rw [← HQ2.out] at hv2; subst hv2; clear k1 k2 HR2 HS2 HN2)
          go_wp2
          go_roundw
          case rel => exact ⟨i + 1, _, _, _, by omega, rfl, by go_num, ⟨by rw [HC2.out]; exact HK2.out, HB2.out⟩⟩
          case measure => simp [intOf]; omega
        · by_cases h3 : a < po + pl
          · have HC2 : Hid (clearB a b (ps.take (i + 1)) = clearB a b (ps.take i) ++ [(⟨po, a - po, pg, pp⟩ : Pc)]) := by
              show _ = _
              rw [HC.out]
              simp only [clear1, Pc.sub]
              rw [if_pos h1, if_neg h2, show min (po + pl) a = a by omega]; simp
            obtain ⟨n1, hn1⟩ : ∃ z, z = ((clearB a b (ps.take i)) ++ [(⟨po, a - po, pg, pp⟩ : Pc)]).length := ⟨_, rfl⟩
            have HQ1 : Hid (n1 = _) := hn1
            clear hn1
            go_upto_region 7 with fail
            have HR1 : Hid (RowE pcE (w1.alloc (.cells #[.int .i64 po, .int .i64 (a - po), .int .i64 pg, .int .i64 pp] 32)) w.heap.size 32 (.slice ax nx cx) (clearB a b (ps.take i))) := (HI.out.1.below HW1.out.1).below (bel_newG _ _)
            have HS1 : Hid (SeesE pcE (w1.alloc (.cells #[.int .i64 po, .int .i64 (a - po), .int .i64 pg, .int .i64 pp] 32)) (.slice (some ⟨w1.heap.size, 0, none⟩) 1 1) [(⟨po, a - po, pg, pp⟩ : Pc)]) := seesE_one pcE w1 32 (⟨po, a - po, pg, pp⟩ : Pc) _ rfl
            have HN1 : Hid ((clearB a b (ps.take i)).length + [(⟨po, a - po, pg, pp⟩ : Pc)].length ≤ maxLen ∧ ((clearB a b (ps.take i)).length + [(⟨po, a - po, pg, pp⟩ : Pc)].length) * 32 ≤ 140737488355328 ∧ w.heap.size ≤ (w1.alloc (.cells #[.int .i64 po, .int .i64 (a - po), .int .i64 pg, .int .i64 pp] 32)).heap.size) := by
              have h1 := HLN.out
              have h2 : w.heap.size ≤ w1.heap.size := HZ1.out
              exact ⟨by simp; unfold maxLen; omega, by simp; omega, by simp; omega⟩
            go_upto_region 8 with (at_builtin; refine wpList_appE (E := pcE) Try.underlying27 infoPc rfl rfl _ _ rfl w.heap.size _ (clearB a b (ps.take i)) rfl HR1.out _ [(⟨po, a - po, pg, pp⟩ : Pc)] rfl HS1.out HN1.out.1 HN1.out.2.1 HN1.out.2.2 ?_; intro v1 u1w k1 k2; have HK1 : Hid (RowE pcE u1w w.heap.size 32 _ ((clearB a b (ps.take i)) ++ [(⟨po, a - po, pg, pp⟩ : Pc)])) := k1; have HB1 : Hid (u1w.heap[wr.heap.size]? = some (.cells #[.int .i64 po, .int .i64 pl, .int .i64 pg, .int .i64 pp] 32) ∧ Below w.heap.size w u1w) := (row_kept HI.out.1 (bel_tr HW1.out.1 (bel_newG w1 (.cells #[.int .i64 po, .int .i64 (a - po), .int .i64 pg, .int .i64 pp] 32))) k2).elim fun g1 g2 => ⟨g1 _ _ (Nat.le_refl _) (blk_below (bel_newG _ _) HW1.out.2), g2 HI.out.2 HI.out.2.size⟩; obtain ⟨av1, cv1, hv1⟩ := k1.sees.form; rw [← HQ1.out] at hv1; subst hv1; clear k1 k2 HR1 HS1 HN1)
            clear b0 b1 b2 b3 bl
            go_wp2
            go_roundw
            case rel => exact ⟨i + 1, _, _, _, by omega, rfl, by go_num, ⟨by rw [HC2.out]; exact HK1.out, HB1.out.2⟩⟩
            case measure => simp [intOf]; omega
          · have HC2 : Hid (clearB a b (ps.take (i + 1)) = clearB a b (ps.take i) ++ [(⟨po, po + pl - po, pg, pp⟩ : Pc)]) := by
              show _ = _
              rw [HC.out]
              simp only [clear1, Pc.sub]
              rw [if_pos h1, if_neg h2, show min (po + pl) a = po + pl by omega]; simp
            obtain ⟨n1, hn1⟩ : ∃ z, z = ((clearB a b (ps.take i)) ++ [(⟨po, po + pl - po, pg, pp⟩ : Pc)]).length := ⟨_, rfl⟩
            have HQ1 : Hid (n1 = _) := hn1
            clear hn1
            go_upto_region 7 with fail
            have HR1 : Hid (RowE pcE (w1.alloc (.cells #[.int .i64 po, .int .i64 (po + pl - po), .int .i64 pg, .int .i64 pp] 32)) w.heap.size 32 (.slice ax nx cx) (clearB a b (ps.take i))) := (HI.out.1.below HW1.out.1).below (bel_newG _ _)
            have HS1 : Hid (SeesE pcE (w1.alloc (.cells #[.int .i64 po, .int .i64 (po + pl - po), .int .i64 pg, .int .i64 pp] 32)) (.slice (some ⟨w1.heap.size, 0, none⟩) 1 1) [(⟨po, po + pl - po, pg, pp⟩ : Pc)]) := seesE_one pcE w1 32 (⟨po, po + pl - po, pg, pp⟩ : Pc) _ rfl
            have HN1 : Hid ((clearB a b (ps.take i)).length + [(⟨po, po + pl - po, pg, pp⟩ : Pc)].length ≤ maxLen ∧ ((clearB a b (ps.take i)).length + [(⟨po, po + pl - po, pg, pp⟩ : Pc)].length) * 32 ≤ 140737488355328 ∧ w.heap.size ≤ (w1.alloc (.cells #[.int .i64 po, .int .i64 (po + pl - po), .int .i64 pg, .int .i64 pp] 32)).heap.size) := by
              have h1 := HLN.out
              have h2 : w.heap.size ≤ w1.heap.size := HZ1.out
              exact ⟨by simp; unfold maxLen; omega, by simp; omega, by simp; omega⟩
            go_upto_region 8 with (at_builtin; refine wpList_appE (E := pcE) Try.underlying27 infoPc rfl rfl _ _ rfl w.heap.size _ (clearB a b (ps.take i)) rfl HR1.out _ [(⟨po, po + pl - po, pg, pp⟩ : Pc)] rfl HS1.out HN1.out.1 HN1.out.2.1 HN1.out.2.2 ?_; intro v1 u1w k1 k2; have HK1 : Hid (RowE pcE u1w w.heap.size 32 _ ((clearB a b (ps.take i)) ++ [(⟨po, po + pl - po, pg, pp⟩ : Pc)])) := k1; have HB1 : Hid (u1w.heap[wr.heap.size]? = some (.cells #[.int .i64 po, .int .i64 pl, .int .i64 pg, .int .i64 pp] 32) ∧ Below w.heap.size w u1w) := (row_kept HI.out.1 (bel_tr HW1.out.1 (bel_newG w1 (.cells #[.int .i64 po, .int .i64 (po + pl - po), .int .i64 pg, .int .i64 pp] 32))) k2).elim fun g1 g2 => ⟨g1 _ _ (Nat.le_refl _) (blk_below (bel_newG _ _) HW1.out.2), g2 HI.out.2 HI.out.2.size⟩; obtain ⟨av1, cv1, hv1⟩ := k1.sees.form; rw [← HQ1.out] at hv1; subst hv1; clear k1 k2 HR1 HS1 HN1)
            clear b0 b1 b2 b3 bl
            go_wp2
            go_roundw
            case rel => exact ⟨i + 1, _, _, _, by omega, rfl, by go_num, ⟨by rw [HC2.out]; exact HK1.out, HB1.out.2⟩⟩
            case measure => simp [intOf]; omega
      · by_cases h2 : b < po + pl
        · by_cases h4 : po < b
          · have HC2 : Hid (clearB a b (ps.take (i + 1)) = clearB a b (ps.take i) ++ [(⟨b, po + pl - b, pg, pp + b - po⟩ : Pc)]) := by
              show _ = _
              rw [HC.out]
              simp only [clear1, Pc.sub]
              rw [if_neg h1, if_pos h2, show max po b = b by omega]; simp
            obtain ⟨n1, hn1⟩ : ∃ z, z = ((clearB a b (ps.take i)) ++ [(⟨b, po + pl - b, pg, pp + b - po⟩ : Pc)]).length := ⟨_, rfl⟩
            have HQ1 : Hid (n1 = _) := hn1
            clear hn1
            go_upto_region 10 with fail
            have HR1 : Hid (RowE pcE (w1.alloc (.cells #[.int .i64 b, .int .i64 (po + pl - b), .int .i64 pg, .int .i64 (pp + b - po)] 32)) w.heap.size 32 (.slice ax nx cx) (clearB a b (ps.take i))) := (HI.out.1.below HW1.out.1).below (bel_newG _ _)
            have HS1 : Hid (SeesE pcE (w1.alloc (.cells #[.int .i64 b, .int .i64 (po + pl - b), .int .i64 pg, .int .i64 (pp + b - po)] 32)) (.slice (some ⟨w1.heap.size, 0, none⟩) 1 1) [(⟨b, po + pl - b, pg, pp + b - po⟩ : Pc)]) := seesE_one pcE w1 32 (⟨b, po + pl - b, pg, pp + b - po⟩ : Pc) _ rfl
            have HN1 : Hid ((clearB a b (ps.take i)).length + [(⟨b, po + pl - b, pg, pp + b - po⟩ : Pc)].length ≤ maxLen ∧ ((clearB a b (ps.take i)).length + [(⟨b, po + pl - b, pg, pp + b - po⟩ : Pc)].length) * 32 ≤ 140737488355328 ∧ w.heap.size ≤ (w1.alloc (.cells #[.int .i64 b, .int .i64 (po + pl - b), .int .i64 pg, .int .i64 (pp + b - po)] 32)).heap.size) := by
              have h1 := HLN.out
              have h2 : w.heap.size ≤ w1.heap.size := HZ1.out
              exact ⟨by simp; unfold maxLen; omega, by simp; omega, by simp; omega⟩
            go_wp2_with (at_builtin; refine wpList_appE (E := pcE) Try.underlying27 infoPc rfl rfl _ _ rfl w.heap.size _ (clearB a b (ps.take i)) rfl HR1.out _ [(⟨b, po + pl - b, pg, pp + b - po⟩ : Pc)] rfl HS1.out HN1.out.1 HN1.out.2.1 HN1.out.2.2 ?_; intro v1 u1w k1 k2; have HK1 : Hid (RowE pcE u1w w.heap.size 32 _ ((clearB a b (ps.take i)) ++ [(⟨b, po + pl - b, pg, pp + b - po⟩ : Pc)])) := k1; have HB1 : Hid (u1w.heap[wr.heap.size]? = some (.cells #[.int .i64 po, .int .i64 pl, .int .i64 pg, .int .i64 pp] 32) ∧ Below w.heap.size w u1w) := (row_kept HI.out.1 (bel_tr HW1.out.1 (bel_newG w1 (.cells #[.int .i64 b, .int .i64 (po + pl - b), .int .i64 pg, .int .i64 (pp + b - po)] 32))) k2).elim fun g1 g2 => ⟨g1 _ _ (Nat.le_refl _) (blk_below (bel_newG _ _) HW1.out.2), g2 HI.out.2 HI.out.2.size⟩; obtain ⟨av1, cv1, hv1⟩ := k1.sees.form; rw [← HQ1.out] at hv1; subst hv1; clear k1 k2 HR1 HS1 HN1)
            clear b0 b1 b2 b3 bl
            go_wp2
            go_roundw
            case rel => exact ⟨i + 1, _, _, _, by omega, rfl, by go_num, ⟨by rw [HC2.out]; exact HK1.out, HB1.out.2⟩⟩
            case measure => simp [intOf]; omega
          · have HC2 : Hid (clearB a b (ps.take (i + 1)) = clearB a b (ps.take i) ++ [(⟨po, po + pl - po, pg, pp⟩ : Pc)]) := by
              show _ = _
              rw [HC.out]
              simp only [clear1, Pc.sub]
              rw [if_neg h1, if_pos h2, show max po b = po by omega]; simp
            obtain ⟨n1, hn1⟩ : ∃ z, z = ((clearB a b (ps.take i)) ++ [(⟨po, po + pl - po, pg, pp⟩ : Pc)]).length := ⟨_, rfl⟩
            have HQ1 : Hid (n1 = _) := hn1
            clear hn1
            go_upto_region 10 with fail
            have HR1 : Hid (RowE pcE (w1.alloc (.cells #[.int .i64 po, .int .i64 (po + pl - po), .int .i64 pg, .int .i64 pp] 32)) w.heap.size 32 (.slice ax nx cx) (clearB a b (ps.take i))) := (HI.out.1.below HW1.out.1).below (bel_newG _ _)
            have HS1 : Hid (SeesE pcE (w1.alloc (.cells #[.int .i64 po, .int .i64 (po + pl - po), .int .i64 pg, .int .i64 pp] 32)) (.slice (some ⟨w1.heap.size, 0, none⟩) 1 1) [(⟨po, po + pl - po, pg, pp⟩ : Pc)]) := seesE_one pcE w1 32 (⟨po, po + pl - po, pg, pp⟩ : Pc) _ rfl
            have HN1 : Hid ((clearB a b (ps.take i)).length + [(⟨po, po + pl - po, pg, pp⟩ : Pc)].length ≤ maxLen ∧ ((clearB a b (ps.take i)).length + [(⟨po, po + pl - po, pg, pp⟩ : Pc)].length) * 32 ≤ 140737488355328 ∧ w.heap.size ≤ (w1.alloc (.cells #[.int .i64 po, .int .i64 (po + pl - po), .int .i64 pg, .int .i64 pp] 32)).heap.size) := by
              have h1 := HLN.out
              have h2 : w.heap.size ≤ w1.heap.size := HZ1.out
              exact ⟨by simp; unfold maxLen; omega, by simp; omega, by simp; omega⟩
            go_wp2_with (at_builtin; refine wpList_appE (E := pcE) Try.underlying27 infoPc rfl rfl _ _ rfl w.heap.size _ (clearB a b (ps.take i)) rfl HR1.out _ [(⟨po, po + pl - po, pg, pp⟩ : Pc)] rfl HS1.out HN1.out.1 HN1.out.2.1 HN1.out.2.2 ?_; intro v1 u1w k1 k2; have HK1 : Hid (RowE pcE u1w w.heap.size 32 _ ((clearB a b (ps.take i)) ++ [(⟨po, po + pl - po, pg, pp⟩ : Pc)])) := k1; have HB1 : Hid (u1w.heap[wr.heap.size]? = some (.cells #[.int .i64 po, .int .i64 pl, .int .i64 pg, .int .i64 pp] 32) ∧ Below w.heap.size w u1w) := (row_kept HI.out.1 (bel_tr HW1.out.1 (bel_newG w1 (.cells #[.int .i64 po, .int .i64 (po + pl - po), .int .i64 pg, .int .i64 pp] 32))) k2).elim fun g1 g2 => ⟨g1 _ _ (Nat.le_refl _) (blk_below (bel_newG _ _) HW1.out.2), g2 HI.out.2 HI.out.2.size⟩; obtain ⟨av1, cv1, hv1⟩ := k1.sees.form; rw [← HQ1.out] at hv1; subst hv1; clear k1 k2 HR1 HS1 HN1)
            clear b0 b1 b2 b3 bl
            go_wp2
            go_roundw
            case rel => exact ⟨i + 1, _, _, _, by omega, rfl, by go_num, ⟨by rw [HC2.out]; exact HK1.out, HB1.out.2⟩⟩
            case measure => simp [intOf]; omega
        · have HC2 : Hid (clearB a b (ps.take (i + 1)) = clearB a b (ps.take i)) := by
            show _ = _
            rw [HC.out]
            simp only [clear1, Pc.sub]
            rw [if_neg h1, if_neg h2]; simp
          go_wp2
          go_roundw
          case rel => exact ⟨i + 1, _, _, _, by omega, rfl, by go_num, ⟨by rw [HC2.out]; exact HI.out.1.below HW1.out.1, bel_tr HI.out.2 HW1.out.1⟩⟩
          case measure => simp [intOf]; omega
    · have hli2 : ¬ (i : Int) < (ps.length : Int) := by omega
      have ei : i = ps.length := by omega
      subst ei
      have HE : Hid (RowE pcE wr w.heap.size 32 (.slice ax nx cx) (clearB a b ps) ∧ Below w.heap.size w wr) := by
        have := HI.out
        rw [List.take_length] at this
        exact this
      have q1 := blk_frozen (blk_below HI.out.2 HQ.out) 0
      go_wp2
      go_end0
      exact ⟨rfl, .slice ax nx cx, setCell_blk (blk_below HE.out.2 HQ.out) _, rowE_set HE.out.1 (blk_lt HQ.out) _ _, (turn1_below HE.out.2).trans (turn1_set q wr 0 _)⟩
end Go.Proofs.Ythdmclhccbjgoaa
