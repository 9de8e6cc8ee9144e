/- package extent: makeHole. -/
import Derived.Test.YthdmclhccbjgoaaEMapT
import Derived.Test.YthdmclhccbjgoaaEBeside
import Derived.Test.YthdmclhccbjgoaaMPut
namespace Go.Proofs.Ythdmclhccbjgoaa
open Go.RowKit Kit
set_option linter.unusedVariables false

theorem ebes_any (po pl pg pp qo ql qg qp : Int) (w : World) (h0 : 0 ≤ po) (h1 : po ≤ 8589934592) (h2 : 1 ≤ pl) (h3 : po + pl ≤ 8589934592) (h4 : 0 ≤ pp) (h5 : pp ≤ 8589934592) (g0 : 0 ≤ qo) (g1 : qo ≤ 8589934592) (g2 : 0 ≤ ql) (g3 : qo + ql ≤ 8589934592) (o1 : qo < po + pl) (o2 : po < qo + ql) :
    Calls Try.prog 52 #[.agg #[.int .i64 po, .int .i64 pl, .int .i64 pg, .int .i64 pp], .agg #[.int .i64 qo, .int .i64 ql, .int .i64 qg, .int .i64 qp]] w fun e w' => ∃ v', e = .returned v' ∧ RowE pcE w' w.heap.size 35 v' (clear1 qo (qo + ql) ⟨po, pl, pg, pp⟩) ∧ Below w.heap.size w w' := by
  have e1 : min (po + pl) qo - po = qo - po := by omega
  have e2 : max po (qo + ql) = qo + ql := by omega
  unfold clear1 Pc.sub
  simp only [e1, e2]
  by_cases c1 : po < qo
  · by_cases c2 : qo + ql < po + pl
    · rw [if_pos c1, if_pos c2]
      exact ebes_both po pl pg pp qo ql qg qp w h0 h1 h2 h3 h4 h5 g0 g1 g2 g3 c1 c2
    · rw [if_pos c1, if_neg c2]
      exact ebes_ahead po pl pg pp qo ql qg qp w h0 h1 h2 h3 h4 h5 g0 g1 g2 g3 c1 c2
  · by_cases c2 : qo + ql < po + pl
    · rw [if_neg c1, if_pos c2]
      exact ebes_behind po pl pg pp qo ql qg qp w h0 h1 h2 h3 h4 h5 g0 g1 g2 g3 c1 c2
    · rw [if_neg c1, if_neg c2]
      exact ebes_none po pl pg pp qo ql qg qp w h0 h1 h2 h3 h4 h5 g0 g1 g2 g3 c1 c2
/-- v[i:j], whatever the room. -/
theorem part_sees {w : World} {B : Nat} {v : Value} {xs : List Pc} (h : RowE pcE w B 35 v xs) (i j : Nat) (hij : i ≤ j) (hj : j ≤ xs.length) :
    (v = .slice none 0 0 ∧ i = 0 ∧ j = 0 ∧ xs = []) ∨ ∃ g cap A, v = .slice (some ⟨g, 0, none⟩) xs.length cap ∧ (if cap = i then some (⟨g, 0, none⟩ : Addr) else some ⟨g, i * 4, none⟩) = some A ∧ Hid (SeesE pcE w (.slice (some A) (j - i) (cap - i)) ((xs.take j).drop i)) ∧ xs.length ≤ cap ∧ cap ≤ maxLen := by
  obtain ⟨h1, h2⟩ := id h
  rcases h2 with ⟨rfl, h2⟩ | ⟨g, cap, cur, rfl, hg, hh, h3, h4, h5, h6⟩
  · exact .inl ⟨rfl, by omega, by omega, List.eq_nil_of_length_eq_zero h2⟩
  · obtain ⟨A, hA, HA⟩ := from_sees (h.take j hj) i hij
    exact .inr ⟨g, cap, A, rfl, hA, HA, h3, h4⟩
theorem clear_take_snoc (a b : Int) (mid : List Pc) (k : Nat) (hk : k < mid.length) : clearB a b (mid.take (k + 1)) = clearB a b (mid.take k) ++ clear1 a b mid[k] := clear_snoc a b mid k hk
theorem clear_take_le {a b : Int} {mid : List Pc} (h : (clearB a b mid).length ≤ 2) (k : Nat) : (clearB a b (mid.take k)).length ≤ 2 := by
  have e : clearB a b mid = clearB a b (mid.take k) ++ clearB a b (mid.drop k) := by
    unfold clearB; rw [← List.flatMap_append, List.take_append_drop]
  rw [e, List.length_append] at h
  omega
set_option maxRecDepth 4000 in
set_option maxHeartbeats 8000000 in
theorem ehole_some (p B : Nat) (xo xl xg xp : Int) (v : Value) (ps : List Pc) (w : World) (hm : EMap w p B v ps) (hr : Rise ps) (hf : Fits ps) (hl : ps.length ≤ 900) (g0 : 0 ≤ xo) (g1 : xo ≤ 4294967296) (g2 : 0 < xl) (g3 : xo + xl ≤ 4294967296) :
    Calls Try.prog 40 #[.pointer (some ⟨p, 0, none⟩), .agg #[.int .i64 xo, .int .i64 xl, .int .i64 xg, .int .i64 xp]] w fun e w' => e = .returned (.tuple #[]) ∧ ∃ v', EMap w' p B v' (clearB xo (xo + xl) ps) ∧ Turn9 p v v' w w' := by
  have HM : Hid (EMap w p B v ps) := hm
  obtain ⟨i, hi⟩ : ∃ z, z = firstI xo ps := ⟨_, rfl⟩
  obtain ⟨j, hj⟩ : ∃ z, z = aheadB (xo + xl) ps := ⟨_, rfl⟩
  have hij : i ≤ j := by rw [hi, hj]; exact first_le_ahead (by omega) hr
  have hjl : j ≤ ps.length := by rw [hj]; exact ahead_le _ _
  have HX : Hid (ps.take i ++ clearB xo (xo + xl) ((ps.take j).drop i) ++ ps.drop j = clearB xo (xo + xl) ps) := by
    show _ = _
    rw [hi, hj]; exact hole_is (by omega) hr
  obtain ⟨W, hW⟩ : ∃ z, z = w.alloc (.cells #[.int .i64 xo, .int .i64 xl, .int .i64 xg, .int .i64 xp] 35) := ⟨_, rfl⟩
  have HW : Hid (Below w.heap.size w W ∧ w.heap.size < W.heap.size) := by rw [hW]; exact ⟨bel_newG _ _, by simp⟩
  have hb1 : W.heap[w.heap.size]? = some (.cells #[.int .i64 xo, .int .i64 xl, .int .i64 xg, .int .i64 xp] 35) := by rw [hW]; exact (MapKept.heap_alloc w _).1
  have HBX : Hid (W.heap[w.heap.size]? = some (.cells #[.int .i64 xo, .int .i64 xl, .int .i64 xg, .int .i64 xp] 35)) := hb1
  have HE : Hid (∀ n : OwnW W, Calls Try.prog 36 #[.agg #[.int .i64 xo, .int .i64 xl, .int .i64 xg, .int .i64 xp]] n.1 fun e w'' => e = .returned (.int .i64 (xo + xl)) ∧ ∃ m : OwnW W, w'' = m.1) := fun n => Calls.own_of (epend_any xo xl xg xp n.1 g0 (by omega) (by omega) (by omega))
  have HA : Hid (∀ n : OwnW W, Calls Try.prog 34 #[.pointer (some ⟨p, 0, none⟩), .int .i64 xo, .int .i64 (xo + xl)] n.1 fun e w'' => e = .returned (.tuple #[.int .i64 (i : Int), .int .i64 (j : Int)]) ∧ ∃ m : OwnW W, w'' = m.1) := fun n => Calls.own_of (by
    rw [hi, hj]
    exact eamong_any p xo (xo + xl) v ps n.1 (by omega) (blk_below (bel_tr HW.out.1 n.2) hm.cell) (hm.row.sees.below (bel_tr HW.out.1 n.2)) hr hf (by omega))
  have hne := ownW_nonempty W
  have dl := HW.out.2
  have a0 : ∀ n : OwnW W, n.1.cell? ⟨w.heap.size, 0, none⟩ = some (.int .i64 xo) := fun n => (n.2.cell (by exact dl)).trans (blk_cell hb1 rfl)
  have a1 : ∀ n : OwnW W, n.1.cell? ⟨w.heap.size, 1, none⟩ = some (.int .i64 xl) := fun n => (n.2.cell (by exact dl)).trans (blk_cell hb1 rfl)
  have a2 : ∀ n : OwnW W, n.1.cell? ⟨w.heap.size, 2, none⟩ = some (.int .i64 xg) := fun n => (n.2.cell (by exact dl)).trans (blk_cell hb1 rfl)
  have a3 : ∀ n : OwnW W, n.1.cell? ⟨w.heap.size, 3, none⟩ = some (.int .i64 xp) := fun n => (n.2.cell (by exact dl)).trans (blk_cell hb1 rfl)
  have HMID : Hid (∀ x ∈ (ps.take j).drop i, Fit x ∧ x.off < xo + xl ∧ xo < x.off + x.len) := fun x hx => by
    have h1 : x ∈ ps.take j := List.mem_of_mem_drop hx
    refine ⟨hf x (List.mem_of_mem_take h1), ?_, ?_⟩
    · rw [hj] at h1; exact to_ahead x h1
    · refine from_first (a := xo) hr x ?_
      rw [← hi]
      obtain ⟨k, hk, rfl⟩ := List.mem_iff_getElem.1 hx
      rw [List.getElem_drop, List.getElem_take]
      exact List.mem_drop_iff_getElem.2 ⟨k, by rw [List.length_drop, List.length_take] at hk; omega, by congr 1⟩
  have HC2 : Hid ((clearB xo (xo + xl) ((ps.take j).drop i)).length ≤ 2) := mid_len (by omega) ⟨fun x hx => hr.1 x (List.mem_of_mem_take (List.mem_of_mem_drop hx)), (hr.2.sublist (List.take_sublist _ _)).sublist (List.drop_sublist _ _)⟩ fun x hx => ⟨(HMID.out x hx).2.1, (HMID.out x hx).2.2⟩
  have hjn : (j : Int) ≤ 900 := by omega
  clear hi hj hr hf hb1
  rcases part_sees hm.row i j hij hjl with ⟨hv, hi0, hj0, hps⟩ | ⟨g, cap, A, hv, hA, HS, hcap, hcm⟩
  · subst hv hi0 hj0 hps
    have q0 : ∀ n : OwnW W, n.1.cell? ⟨p, 0, none⟩ = some (.slice none 0 0) := fun n => blk_cell (hm.below (bel_tr HW.out.1 n.2)).cell rfl
    clear hm
    go_enter Try.func40, Try.ntmps40
    go_wp2_with fail
    rw [← hW]
    clear hW
    refine wp_region_own (by kernel_rfl) (by kernel_rfl) ?_
    repeat (go_big_quiet_step (first | exact HE.out _ | exact HA.out _))
    refine wpQuiet_nil ?_
    rintro _ ⟨m, rfl⟩
    have HQ : Hid (Below w.heap.size w m.1) := bel_tr HW.out.1 m.2
    have hq := q0 m
    obtain ⟨wq, hwq⟩ : ∃ z, z = m.1 := ⟨_, rfl⟩
    rw [← hwq] at HQ hq ⊢
    clear a0 a1 a2 a3 q0 hne hwq m
    go_wp2_with fail
    go_loopw [6, 26] (fun s6 s26 wr => s6 = .slice none 0 0 ∧ s26 = .int .i64 0 ∧ Hid (Below wq.heap.size wq wr)) (fun _ _ _ => 0)
    case atStart => exact ⟨rfl, rfl, Below.refl _ _⟩
    case round =>
      obtain ⟨rfl, rfl, HI⟩ := hrel
      have HW2 : Hid (EMap wr p B (.slice none 0 0) []) := HM.out.below (bel_tr HQ.out HI.out)
      have q1 : wr.cell? ⟨p, 0, none⟩ = some (.slice none 0 0) := blk_cell HW2.out.cell rfl
      have f1 : wr.frozen? ⟨p, 0, none⟩ = false := blk_frozen HW2.out.cell 0
      have HRP : Hid (Calls Try.prog 53 #[.slice none 0 0, .int .i64 0, .int .i64 0, .slice none 0 0] wr fun e w' => e = .returned (.slice none 0 0) ∧ w' = wr) := srep_zero (.slice none 0 0) B 0 [] wr HW2.out.row (by simp)
      go_wp2_with (go_at_call 53; refine HRP.out.mono ?_; rintro e w1 ⟨rfl, rfl⟩)
      go_end0
      have hst := emap_store HW2.out ⟨rfl, rfl, rfl, Nat.le_refl _, fun _ _ _ => rfl⟩ HW2.out.row (fun k hk => .inl hk)
      exact ⟨rfl, _, hst.1, (turn9_below (bel_tr HQ.out HI.out)).trans hst.2⟩
  · subst hv
    obtain ⟨off, rfl⟩ : ∃ off, A = ⟨g, off, none⟩ := by
      by_cases hci : cap = i
      · rw [if_pos hci] at hA; exact ⟨0, (Option.some.inj hA).symm⟩
      · rw [if_neg hci] at hA; exact ⟨_, (Option.some.inj hA).symm⟩
    obtain ⟨n, hn⟩ : ∃ n, n = ps.length := ⟨_, rfl⟩
    have HN : Hid (n = ps.length) := hn
    rw [← hn] at HM hcap hjl hm ⊢
    obtain ⟨mid, hmid⟩ : ∃ z, z = (ps.take j).drop i := ⟨_, rfl⟩
    rw [← hmid] at HX HMID HC2 HS
    have HD : Hid (mid.length = j - i) := by show _ = _; rw [hmid, List.length_drop, List.length_take]; omega
    have q0 : ∀ n' : OwnW W, n'.1.cell? ⟨p, 0, none⟩ = some (.slice (some ⟨g, 0, none⟩) n cap) := fun n' => blk_cell (hm.below (bel_tr HW.out.1 n'.2)).cell rfl
    have hcm2 : cap ≤ 9223372036854775807 := hcm
    have hi0 : (0 : Int) ≤ (i : Int) := by omega
    have hijI : (i : Int) ≤ (j : Int) := by omega
    have hjc : (j : Int) ≤ (cap : Int) := by omega
    have hic : (i : Int) ≤ (cap : Int) := by omega
    have HL9 : Hid (n ≤ 900) := by show _ ≤ _; omega
    clear hm hn hmid hcm hl
    go_enter Try.func40, Try.ntmps40
    go_wp2_with fail
    rw [← hW]
    clear hW
    refine wp_region_own (by kernel_rfl) (by kernel_rfl) ?_
    repeat (go_big_quiet_step (first | exact HE.out _ | exact HA.out _))
    refine wpQuiet_nil ?_
    rintro _ ⟨m, rfl⟩
    have HQ : Hid (Below w.heap.size w m.1 ∧ Below W.heap.size W m.1) := ⟨bel_tr HW.out.1 m.2, m.2⟩
    have hq := q0 m
    obtain ⟨wq, hwq⟩ : ∃ z, z = m.1 := ⟨_, rfl⟩
    rw [← hwq] at HQ hq ⊢
    have hlow : w.heap.size < wq.heap.size := Nat.lt_of_lt_of_le HW.out.2 HQ.out.2.size
    obtain ⟨d, hd⟩ : ∃ d, d = j - i := ⟨_, rfl⟩
    rw [← hd] at HD HS
    have HDD : Hid (d = j - i) := hd
    have hd900 : (d : Int) ≤ 900 := by omega
    clear a0 a1 a2 a3 q0 hne hwq m dl
    go_wp2_with fail
    rw [← hd]
    clear hd
    go_loopw [6, 26] (fun s6 s26 wr => ∃ (k : Nat) (ax : Option Addr) (nx cx : Nat), k ≤ d ∧ s6 = .slice ax nx cx ∧ s26 = .int .i64 (k : Int) ∧ Hid (RowE pcE wr wq.heap.size 35 (.slice ax nx cx) (clearB xo (xo + xl) (mid.take k)) ∧ Below wq.heap.size wq wr ∧ (k = 0 → Value.slice ax nx cx = .slice none 0 0))) (fun _ s26 _ => d - (intOf s26).toNat)
    case atStart => exact ⟨0, none, 0, 0, Nat.zero_le _, rfl, rfl, ⟨rowE_nil pcE _ _ _, Below.refl _ _, fun _ => rfl⟩⟩
    case round =>
      obtain ⟨k, ax, nx, cx, hk, rfl, rfl, HI⟩ := hrel
      have HWr : Hid (Below w.heap.size w wr) := bel_tr HQ.out.1 HI.out.2.1
      have HMr : Hid (EMap wr p B (.slice (some ⟨g, 0, none⟩) n cap) ps) := HM.out.below HWr.out
      by_cases hlt : k < d
      · have hki : (k : Int) < (d : Int) := by omega
        have hk0 : (0 : Int) ≤ (k : Int) := by omega
        have hkm : k < mid.length := by have := HD.out; omega
        obtain ⟨b2, off2, e, hnn, hB2, hcc⟩ := pc_cells (HS.out.below HWr.out) (by omega)
        injection e with e
        injection e with e1 e2
        subst e1 e2
        obtain ⟨c0, c1, c2, c3⟩ := hcc k hkm
        have HCL : Hid (clearB xo (xo + xl) (mid.take (k + 1)) = clearB xo (xo + xl) (mid.take k) ++ clear1 xo (xo + xl) mid[k]) := clear_take_snoc _ _ mid k hkm
        have hfit := HMID.out mid[k] (List.getElem_mem _)
        obtain ⟨x, hx⟩ : ∃ x, x = mid[k] := ⟨_, rfl⟩
        rw [← hx] at c0 c1 c2 c3 HCL hfit
        clear hx hcc hnn
        obtain ⟨⟨f0, f1, f2, f3, f4, f5, f6⟩, o1, o2⟩ := hfit
        obtain ⟨po, pl, pg, pp⟩ := x
        simp only at c0 c1 c2 c3 f0 f1 f2 f3 f4 f5 f6 o1 o2
        have hbx := blk_below (bel_tr HQ.out.2 (HI.out.2.1)) HBX.out
        have b0 : wr.cell? ⟨w.heap.size, 0, none⟩ = some (.int .i64 xo) := blk_cell hbx rfl
        have b1 : wr.cell? ⟨w.heap.size, 1, none⟩ = some (.int .i64 xl) := blk_cell hbx rfl
        have b2 : wr.cell? ⟨w.heap.size, 2, none⟩ = some (.int .i64 xg) := blk_cell hbx rfl
        have b3 : wr.cell? ⟨w.heap.size, 3, none⟩ = some (.int .i64 xp) := blk_cell hbx rfl
        have hlr := blk_lt hbx
        have HBS : Hid (∀ n : World, Calls Try.prog 52 #[.agg #[.int .i64 po, .int .i64 pl, .int .i64 pg, .int .i64 pp], .agg #[.int .i64 xo, .int .i64 xl, .int .i64 xg, .int .i64 xp]] n fun e w' => ∃ v', e = .returned v' ∧ RowE pcE w' n.heap.size 35 v' (clear1 xo (xo + xl) ⟨po, pl, pg, pp⟩) ∧ Below n.heap.size n w') := fun n => ebes_any po pl pg pp xo xl xg xp n f0 (by omega) f1 (by omega) f5 (by omega) g0 (by omega) (by omega) (by omega) o2 o1
        have HLN : Hid ((clearB xo (xo + xl) (mid.take k)).length + (clear1 xo (xo + xl) ⟨po, pl, pg, pp⟩).length ≤ maxLen ∧ ((clearB xo (xo + xl) (mid.take k)).length + (clear1 xo (xo + xl) ⟨po, pl, pg, pp⟩).length) * 32 ≤ 140737488355328) := by
          have h1 := clear_take_le HC2.out k
          have h2 := clear1_len xo (xo + xl) ⟨po, pl, pg, pp⟩
          exact ⟨by unfold maxLen; omega, by omega⟩
        clear hbx
        go_wp2_with (first
          | (go_at_call 52; refine (HBS.out _).mono ?_; rintro e w2 ⟨v2, rfl, hr2, hb2⟩; have HR2 : Hid (SeesE pcE w2 v2 (clear1 xo (xo + xl) ⟨po, pl, pg, pp⟩) ∧ Below wr.heap.size wr w2) := ⟨hr2.sees, bel_tr (bel_newG _ _) hb2⟩; clear hr2 hb2)
          | (at_builtin; refine wpList_appE (E := pcE) Try.underlying41 infoEp rfl rfl _ _ rfl wq.heap.size _ (clearB xo (xo + xl) (mid.take k)) rfl (HI.out.1.below HR2.out.2) v2 (clear1 xo (xo + xl) ⟨po, pl, pg, pp⟩) rfl HR2.out.1 HLN.out.1 HLN.out.2 (Nat.le_trans HI.out.2.1.size HR2.out.2.size) ?_; intro v3 w3 k1 k2; have HK3 : Hid (RowE pcE w3 wq.heap.size 35 v3 (clearB xo (xo + xl) (mid.take (k + 1))) ∧ Below wq.heap.size wq w3) := ⟨by rw [HCL.out]; exact k1, (row_kept HI.out.1 HR2.out.2 k2).2 HI.out.2.1 HI.out.2.1.size⟩; obtain ⟨a3, c3', hv3⟩ := k1.sees.form; obtain ⟨n3, hn3⟩ : ∃ z, z = (clearB xo (xo + xl) (mid.take k) ++ clear1 xo (xo + xl) ⟨po, pl, pg, pp⟩).length := ⟨_, rfl⟩; rw [← hn3] at hv3; clear hn3; subst hv3; clear k1 k2))
        go_roundw
        case rel => exact ⟨k + 1, _, _, _, by omega, rfl, by go_num, HK3.out.1, HK3.out.2, fun h => absurd h (by omega)⟩
        case measure => simp [intOf]; omega
      · have hkd : k = d := by omega
        subst hkd
        have hki : ¬ (k : Int) < (k : Int) := by omega
        have q1 : wr.cell? ⟨p, 0, none⟩ = some (.slice (some ⟨g, 0, none⟩) n cap) := blk_cell HMr.out.cell rfl
        have HRP : Hid (Calls Try.prog 53 #[.slice (some ⟨g, 0, none⟩) n cap, .int .i64 (i : Int), .int .i64 (j : Int), .slice ax nx cx] wr fun e w' => ∃ v', e = .returned v' ∧ RowE pcE w' B 35 v' (clearB xo (xo + xl) ps) ∧ wr.grownBy w' (Value.slice (some ⟨g, 0, none⟩) n cap).ownBlock ∧ ∀ q, v'.ownBlock = some q → (Value.slice (some ⟨g, 0, none⟩) n cap).ownBlock = some q ∨ wr.heap.size ≤ q) := by
          have hmid : mid.take k = mid := List.take_of_length_le (by have := HD.out; omega)
          have h1 := HI.out.1
          rw [hmid] at h1
          have hgl : g < w.heap.size := row_lt HM.out.row rfl
          have := srep_any B wq.heap.size i j (.slice (some ⟨g, 0, none⟩) n cap) (.slice ax nx cx) ps (clearB xo (xo + xl) mid) wr HMr.out.row HMr.out.low (by have := HN.out; have := HL9.out; omega) hij (by have := HN.out; omega) h1 HC2.out (fun e => by
            have hk0 : k = 0 := by have := HDD.out; omega
            refine ⟨HI.out.2.2 hk0, ?_⟩
            have : mid = [] := List.eq_nil_of_length_eq_zero (by have := HD.out; omega)
            rw [this]; rfl) (fun q hq hq2 => by
            have hq : some g = some q := hq
            injection hq with hq
            have := h1.block q hq2
            omega)
          rw [HX.out] at this
          exact this
        go_wp2_with (go_at_call 53; refine HRP.out.mono ?_; rintro e w5 ⟨v5, rfl, k1, k2, k3⟩; obtain ⟨a5, c5, hv5⟩ := k1.sees.form; obtain ⟨n5, hn5⟩ : ∃ z, z = (clearB xo (xo + xl) ps).length := ⟨_, rfl⟩; rw [← hn5] at hv5; clear hn5; subst hv5; have HK5 : Hid (RowE pcE w5 B 35 (.slice a5 n5 c5) (clearB xo (xo + xl) ps) ∧ wr.grownBy w5 (Value.slice (some ⟨g, 0, none⟩) n cap).ownBlock ∧ ∀ q, (Value.slice a5 n5 c5).ownBlock = some q → (Value.slice (some ⟨g, 0, none⟩) n cap).ownBlock = some q ∨ wr.heap.size ≤ q) := ⟨k1, k2, k3⟩; have hp5 : w5.heap[p]? = some (.cells #[.slice (some ⟨g, 0, none⟩) n cap] 59) := by { rw [k2.block p (blk_lt HMr.out.cell) (fun e => HMr.out.off e.symm)]; exact HMr.out.cell }; have q5 := blk_cell hp5 (j := 0) rfl; have f5 := blk_frozen hp5 0; clear k1 k2 k3 hp5)
        go_end0
        have hst := emap_store HMr.out HK5.out.2.1 HK5.out.1 HK5.out.2.2
        exact ⟨rfl, _, hst.1, (turn9_below HWr.out).trans hst.2⟩
end Go.Proofs.Ythdmclhccbjgoaa
