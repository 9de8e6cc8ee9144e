/- The document's table: Names, Clean. -/
import Derived.Test.YthjcmagionaepaaGreatRTabM
import Derived.Test.YthjcmagionaepaaGreatRSorted
namespace Go.Proofs.YthjcmagionaepaaGreat
open Go.RowKit Kit
set_option linter.unusedVariables false

def namesW (f : Rw → Bool) (l : List Rw) : List ByteArray := (l.filter f).map Rw.name
theorem namesW_snoc (f : Rw → Bool) (l : List Rw) (i : Nat) (h : i < l.length) : namesW f (l.take (i + 1)) = namesW f (l.take i) ++ (if f l[i] then [l[i].name] else []) := by
  unfold namesW
  rw [List.take_succ_eq_append_getElem h, List.filter_append, List.map_append]
  congr 1
  by_cases hf : f l[i] = true
  · rw [List.filter_cons_of_pos hf, if_pos hf]; rfl
  · rw [List.filter_cons_of_neg hf, if_neg hf]; rfl
theorem namesW_len (f : Rw → Bool) (l : List Rw) : (namesW f l).length ≤ l.length := by
  unfold namesW
  rw [List.length_map]
  exact List.length_filter_le _ _
theorem strs_snoc (a : List ByteArray) (x : ByteArray) : strs (a ++ [x]) = strs a ++ [.string x] := by simp [strs]
theorem filter_snoc (f : Rw → Bool) (l : List Rw) (i : Nat) (h : i < l.length) : (l.take (i + 1)).filter f = (l.take i).filter f ++ (if f l[i] then [l[i]] else []) := by
  rw [List.take_succ_eq_append_getElem h, List.filter_append]
  congr 1
  by_cases hf : f l[i] = true
  · rw [List.filter_cons_of_pos hf, if_pos hf]; rfl
  · rw [List.filter_cons_of_neg hf, if_neg hf]; rfl
set_option maxRecDepth 4000 in
set_option maxHeartbeats 8000000 in
theorem rnames_any (q B : Nat) (sv : Value) (last : Int) (rs : List Rw) (ep : Int) (w : World) (h : RTab w q B sv last rs) (hsm : rs.length ≤ 900) :
    Calls Tryz.prog 16 #[.pointer (some ⟨q, 0, none⟩), .int .i64 ep] w fun x w' => ∃ r, x = .returned r ∧ RowV w' w.heap.size 9 r (strs (sortedB (namesW (fun t => holdsB t.born t.died ep) rs))) ∧ Below w.heap.size w w' := by
  obtain ⟨f, hf⟩ : ∃ f : Rw → Bool, f = (fun t => holdsB t.born t.died ep) := ⟨_, rfl⟩
  rw [← hf]
  have hs : SeesE rwE w sv rs := h.row.sees
  obtain ⟨ao, cap, rfl⟩ := hs.form
  obtain ⟨n, hn⟩ : ∃ n, n = rs.length := ⟨_, rfl⟩
  have hcell := h.cell
  rw [← hn] at hs hcell
  have H0 : Hid (w.heap[q]? = some (.cells #[.slice ao n cap, .int .i64 last] 30) ∧ SeesE rwE w (.slice ao n cap) rs) := ⟨hcell, hs⟩
  have HN : Hid (n = rs.length ∧ n ≤ 900 ∧ f = (fun t => holdsB t.born t.died ep)) := ⟨hn, by omega, hf⟩
  have hnm : (n : Int) ≤ 900 := by omega
  clear h hs hn hsm hcell hf
  go_enter Tryz.func16, Tryz.ntmps16
  go_upto_region 3 with fail
  go_loopw [5, 6] (fun sl si wr => ∃ i : Nat, i ≤ n ∧ si = .int .i64 (i : Int) ∧ Hid (RowV wr w.heap.size 9 sl (strs (namesW f (rs.take i))) ∧ Below w.heap.size w wr)) (fun _ si _ => n - (intOf si).toNat)
  case atStart => exact ⟨0, Nat.zero_le _, rfl, rowV_nil _ _ _, Below.refl _ _⟩
  case round =>
    obtain ⟨wa, hwa⟩ : ∃ z, z = wr := ⟨_, rfl⟩
    subst hwa
    obtain ⟨i, hi, rfl, HR⟩ := hrel
    have hqk := blk_below HR.out.2 H0.out.1
    have q0 : wa.cell? ⟨q, 0, none⟩ = some (.slice ao n cap) := blk_cell hqk rfl
    have hql : q < wa.heap.size := blk_lt hqk
    clear hqk
    by_cases hlt : i < n
    · have hil : i < rs.length := by have := HN.out.1; omega
      have hii : (i : Int) < (n : Int) := by omega
      have hi0 : (0 : Int) ≤ (i : Int) := by omega
      obtain ⟨b1, o1, e1, hnn1, hb1, hc1⟩ := rw_cells (H0.out.2.below HR.out.2) (by omega)
      subst e1
      obtain ⟨c0, c1, c2, c3⟩ := hc1 i hil
      clear hnn1 hc1
      have HSN : Hid (namesW f (rs.take (i + 1)) = namesW f (rs.take i) ++ (if f rs[i] then [rs[i].name] else [])) := namesW_snoc f rs i hil
      have HL : Hid ((namesW f (rs.take i)).length ≤ 900) := by
        have h1 := namesW_len f (rs.take i)
        rw [List.length_take] at h1
        have := HN.out.2.1
        show _ ≤ _
        omega
      obtain ⟨t, ht⟩ : ∃ t, t = rs[i] := ⟨_, rfl⟩
      rw [← ht] at c0 c1 c2 c3 HSN
      clear ht
      obtain ⟨x, io, y, z⟩ := t
      simp only at c0 c1 c2 c3 HSN
      have HFT : Hid (Calls Tryz.prog 34 #[.agg #[.int .i64 y, .int .i64 z], .int .i64 ep] wa fun r w' => r = .returned (.bool (holdsB y z ep)) ∧ Below wa.heap.size wa w') := rholds_any y z ep wa
      have hfv : f ⟨x, io, y, z⟩ = holdsB y z ep := by rw [HN.out.2.2]
      cases hh : holdsB y z ep with
      | false =>
        rw [hh] at HFT hfv
        have HSM : Hid (namesW f (rs.take (i + 1)) = namesW f (rs.take i)) := by have := HSN.out; show _ = _; rw [this, hfv]; simp
        clear HSN hfv hh
        go_wp2_with (go_at_call 34; refine HFT.out.mono ?_; rintro e w2 ⟨rfl, hbw2⟩; have HB2 : Hid (Below wa.heap.size wa w2) := hbw2; clear hbw2)
        go_roundw
        case rel => exact ⟨i + 1, by omega, by go_num, by rw [HSM.out]; exact HR.out.1.below HB2.out, bel_tr HR.out.2 HB2.out⟩
        case measure => simp [intOf]; omega
      | true =>
        rw [hh] at HFT hfv
        have HSM : Hid (strs (namesW f (rs.take (i + 1))) = strs (namesW f (rs.take i)) ++ [.string x]) := by have := HSN.out; show _ = _; rw [this, hfv]; exact strs_snoc _ _
        clear HSN hfv hh
        go_upto_region 6 with (go_at_call 34; refine HFT.out.mono ?_; rintro e w2 ⟨rfl, hbw2⟩; have HB2 : Hid (Below wa.heap.size wa w2) := hbw2; clear hbw2; have d0 : w2.cell? ⟨b1, o1 + i * 4, none⟩ = some (.string x) := (HB2.out.cell (by exact hb1)).trans c0; have p0 : w2.cell? ⟨q, 0, none⟩ = some (.slice (some ⟨b1, o1, none⟩) n cap) := (HB2.out.cell (by exact hql)).trans q0; have hbl1 : b1 < w2.heap.size := cell_lt9 d0; have hql2 : q < w2.heap.size := cell_lt9 p0; clear c0 c1 c2 c3 q0 hql hb1 HFT)
        go_wp2_with (at_builtin; refine wpList_appV Tryz.underlying38 infoS rfl (by decide) rfl _ _ rfl w.heap.size u5 (strs (namesW f (rs.take i))) rfl ?r1 (.slice (some ⟨w2.heap.size, 0, none⟩) 1 1) [.string x] rfl ?s1 ?c1 ?c2 ?c3 ?_)
        case r1 => exact (HR.out.1.below HB2.out).below (bel_newG _ _)
        case s1 => exact sees_one _ _ _ _ rfl
        case c1 => first | rfl | (intro y hy; simp at hy; subst hy; rfl)
        case c2 => have := HL.out; rw [strs_len]; simp; omega
        case c3 => have h1 := HR.out.2.size; have h2 := HB2.out.size; simp; omega
        intro l3 w3 hr3 hb3
        have HB3 : Hid (RowV w3 w.heap.size 9 l3 (strs (namesW f (rs.take (i + 1)))) ∧ Below w.heap.size w w3) := ⟨by rw [HSM.out]; exact hr3, Below.trans (Below.alloc (bel_tr HR.out.2 HB2.out) (by have h1 := HR.out.2.size; have h2 := HB2.out.size; omega) _) hb3⟩
        clear hr3 hb3
        go_wp2_with fail
        go_roundw
        case rel => exact ⟨i + 1, by omega, by go_num, HB3.out⟩
        case measure => simp [intOf]; omega
    · have hin : ¬ (i : Int) < (n : Int) := by omega
      have HE : Hid (RowV wa w.heap.size 9 u5 (strs (namesW f rs)) ∧ Below w.heap.size w wa ∧ (namesW f rs).length ≤ 100000) := by
        have h1 := HR.out
        rw [List.take_of_length_le (by have := HN.out.1; omega)] at h1
        exact ⟨h1.1, h1.2, by have := namesW_len f rs; have := HN.out.1; have := HN.out.2.1; omega⟩
      go_wp2_with (go_at_call 22; refine (sorted_any _ _ _ HE.out.1.sees HE.out.2.2).mono ?_; rintro e w4 ⟨r4, rfl, hr4, hb4⟩; have H4 : Hid (RowV w4 w.heap.size 9 r4 (strs (sortedB (namesW f rs))) ∧ Below w.heap.size w w4) := ⟨hr4.mono HE.out.2.1.size, bel_tr HE.out.2.1 hb4⟩; clear hr4 hb4)
      go_ret
      exact ⟨_, rfl, H4.out⟩
set_option maxRecDepth 4000 in
set_option maxHeartbeats 8000000 in
theorem rclean_any (q B : Nat) (sv v : Value) (last : Int) (rs : List Rw) (es : List Int) (w : World) (h : RTab w q B sv last rs) (hsm : rs.length ≤ 900) (hv : Sees w v (iV es)) :
    Calls Tryz.prog 29 #[.pointer (some ⟨q, 0, none⟩), v] w fun x w' => x = .returned (.int .i64 ((rs.length : Int) - ((rs.filter (fun t => needB t.born t.died es)).length : Int))) ∧ ∃ sv', RTab w' q B sv' last (rs.filter (fun t => needB t.born t.died es)) ∧ TurnF (tfoot q sv) (tfoot q sv') w w' := by
  obtain ⟨f, hf⟩ : ∃ f : Rw → Bool, f = (fun t => needB t.born t.died es) := ⟨_, rfl⟩
  rw [← hf]
  have hs : SeesE rwE w sv rs := h.row.sees
  obtain ⟨ao, cap, rfl⟩ := hs.form
  obtain ⟨n, hn⟩ : ∃ n, n = rs.length := ⟨_, rfl⟩
  have hcell := h.cell
  rw [← hn] at hs hcell ⊢
  have H0 : Hid (w.heap[q]? = some (.cells #[.slice ao n cap, .int .i64 last] 30) ∧ SeesE rwE w (.slice ao n cap) rs ∧ Sees w v (iV es) ∧ RTab w q B (.slice ao n cap) last rs) := ⟨hcell, hs, hv, by rw [hn]; exact h⟩
  have HN : Hid (n = rs.length ∧ n ≤ 900 ∧ f = (fun t => needB t.born t.died es)) := ⟨hn, by omega, hf⟩
  have hnm : (n : Int) ≤ 900 := by omega
  clear h hs hn hsm hcell hf hv
  obtain ⟨m, hm⟩ : ∃ m, m = (rs.filter f).length := ⟨_, rfl⟩
  rw [← hm]
  have HMM : Hid (m = (rs.filter f).length) := hm
  clear hm
  go_enter Tryz.func29, Tryz.ntmps29
  go_upto_region 3 with fail
  go_loopw [5, 6] (fun sl si wr => ∃ i : Nat, i ≤ n ∧ si = .int .i64 (i : Int) ∧ Hid (RowE rwE wr w.heap.size 72 sl ((rs.take i).filter f) ∧ Below w.heap.size w wr)) (fun _ si _ => n - (intOf si).toNat)
  case atStart => exact ⟨0, Nat.zero_le _, rfl, rowE_nil rwE _ _ _, Below.refl _ _⟩
  case round =>
    obtain ⟨wa, hwa⟩ : ∃ z, z = wr := ⟨_, rfl⟩
    subst hwa
    obtain ⟨i, hi, rfl, HR⟩ := hrel
    have hqk := blk_below HR.out.2 H0.out.1
    have q0 : wa.cell? ⟨q, 0, none⟩ = some (.slice ao n cap) := blk_cell hqk rfl
    have hql : q < wa.heap.size := blk_lt hqk
    by_cases hlt : i < n
    · clear hqk
      have hil : i < rs.length := by have := HN.out.1; omega
      have hii : (i : Int) < (n : Int) := by omega
      have hi0 : (0 : Int) ≤ (i : Int) := by omega
      obtain ⟨b1, o1, e1, hnn1, hb1, hc1⟩ := rw_cells (H0.out.2.1.below HR.out.2) (by omega)
      subst e1
      obtain ⟨c0, c1, c2, c3⟩ := hc1 i hil
      clear hnn1 hc1
      have HSN : Hid ((rs.take (i + 1)).filter f = (rs.take i).filter f ++ (if f rs[i] then [rs[i]] else [])) := filter_snoc f rs i hil
      have HL : Hid (((rs.take i).filter f).length ≤ 900) := by
        have h1 := List.length_filter_le f (rs.take i)
        rw [List.length_take] at h1
        have := HN.out.2.1
        show _ ≤ _
        omega
      obtain ⟨t, ht⟩ : ∃ t, t = rs[i] := ⟨_, rfl⟩
      rw [← ht] at c0 c1 c2 c3 HSN
      clear ht
      obtain ⟨x, io, y, z⟩ := t
      simp only at c0 c1 c2 c3 HSN
      have HFT : Hid (Calls Tryz.prog 46 #[.agg #[.int .i64 y, .int .i64 z], v] wa fun r w' => r = .returned (.bool (needB y z es)) ∧ Below wa.heap.size wa w') := rany_any y z v es wa (H0.out.2.2.1.below HR.out.2)
      have hfv : f ⟨x, io, y, z⟩ = needB y z es := by rw [HN.out.2.2]
      cases hh : needB y z es with
      | false =>
        rw [hh] at HFT hfv
        have HSM : Hid ((rs.take (i + 1)).filter f = (rs.take i).filter f) := by have := HSN.out; show _ = _; rw [this, hfv]; simp
        clear HSN hfv hh
        go_wp2_with (go_at_call 46; refine HFT.out.mono ?_; rintro e w2 ⟨rfl, hbw2⟩; have HB2 : Hid (Below wa.heap.size wa w2) := hbw2; clear hbw2)
        go_roundw
        case rel => exact ⟨i + 1, by omega, by go_num, by rw [HSM.out]; exact HR.out.1.below HB2.out, bel_tr HR.out.2 HB2.out⟩
        case measure => simp [intOf]; omega
      | true =>
        rw [hh] at HFT hfv
        have HSM : Hid ((rs.take (i + 1)).filter f = (rs.take i).filter f ++ [⟨x, io, y, z⟩]) := by have := HSN.out; show _ = _; rw [this, hfv]; rfl
        clear HSN hfv hh
        go_upto_region 6 with (go_at_call 46; refine HFT.out.mono ?_; rintro e w2 ⟨rfl, hbw2⟩; have HB2 : Hid (Below wa.heap.size wa w2) := hbw2; clear hbw2; have d0 : w2.cell? ⟨b1, o1 + i * 4, none⟩ = some (.string x) := (HB2.out.cell (by exact hb1)).trans c0; have d1 : w2.cell? ⟨b1, o1 + i * 4 + 1, none⟩ = some (.int .i64 io) := (HB2.out.cell (by exact hb1)).trans c1; have d2 : w2.cell? ⟨b1, o1 + i * 4 + 2, none⟩ = some (.int .i64 y) := (HB2.out.cell (by exact hb1)).trans c2; have d3 : w2.cell? ⟨b1, o1 + i * 4 + 3, none⟩ = some (.int .i64 z) := (HB2.out.cell (by exact hb1)).trans c3; have p0 : w2.cell? ⟨q, 0, none⟩ = some (.slice (some ⟨b1, o1, none⟩) n cap) := (HB2.out.cell (by exact hql)).trans q0; have hbl1 : b1 < w2.heap.size := cell_lt9 d0; have hql2 : q < w2.heap.size := cell_lt9 p0; clear c0 c1 c2 c3 q0 hql hb1 HFT)
        have HAL : Hid (((rs.take i).filter f).length + [(⟨x, io, y, z⟩ : Rw)].length ≤ maxLen ∧ (((rs.take i).filter f).length + [(⟨x, io, y, z⟩ : Rw)].length) * 40 ≤ 140737488355328 ∧ w.heap.size ≤ (w2.alloc (.cells #[.string x, .int .i64 io, .int .i64 y, .int .i64 z] 72)).heap.size) := by
          have h1 : ((rs.take i).filter f).length ≤ 900 := HL.out
          have h2 := HR.out.2.size
          have h3 := HB2.out.size
          have h4 := (bel_newG w2 (.cells #[.string x, .int .i64 io, .int .i64 y, .int .i64 z] 72)).size
          refine ⟨?_, ?_, by omega⟩ <;> simp only [List.length_cons, List.length_nil] <;> (try unfold maxLen) <;> omega
        go_wp2_with (at_builtin; refine wpList_appE (E := rwE) Tryz.underlying28 infoRw rfl rfl _ _ rfl w.heap.size u5 ((rs.take i).filter f) rfl ((HR.out.1.below HB2.out).below (bel_newG _ _)) (.slice (some ⟨w2.heap.size, 0, none⟩) 1 1) [(⟨x, io, y, z⟩ : Rw)] rfl (seesE_at rwE (x := ⟨x, io, y, z⟩) (MapKept.heap_alloc w2 _).1) HAL.out.1 HAL.out.2.1 HAL.out.2.2 ?_; intro l3 w3 k1 k2; have HB3 : Hid (RowE rwE w3 w.heap.size 72 l3 ((rs.take (i + 1)).filter f) ∧ Below w.heap.size w w3) := (by rw [HSM.out]; exact ⟨k1, (bel_tr (bel_tr HR.out.2 HB2.out) (bel_newG _ _)).grown k2 HAL.out.2.2 (fun j hj => HR.out.1.block j hj)⟩); clear k1 k2)
        go_roundw
        case rel => exact ⟨i + 1, by omega, by go_num, HB3.out⟩
        case measure => simp [intOf]; omega
    · have hin : ¬ (i : Int) < (n : Int) := by omega
      have hrow : RowE rwE wa w.heap.size 72 u5 (rs.filter f) := by
        have h1 := HR.out.1
        rw [List.take_of_length_le (by have := HN.out.1; omega)] at h1
        exact h1
      obtain ⟨xo, xcap, hxf⟩ := hrow.sees.form
      rw [← HMM.out] at hxf
      have hmn : m ≤ n := by rw [HMM.out, HN.out.1]; exact List.length_filter_le _ _
      subst hxf
      have HE : Hid (RTab (wa.setCell ⟨q, 0, none⟩ (.slice xo m xcap)) q B (.slice xo m xcap) last (rs.filter f) ∧ TurnF (tfoot q (.slice ao n cap)) (tfoot q (.slice xo m xcap)) w (wa.setCell ⟨q, 0, none⟩ (.slice xo m xcap))) :=
        rtab_row H0.out.2.2.2 ⟨HR.out.2.os, HR.out.2.tape, HR.out.2.output, HR.out.2.size, fun k hk _ => HR.out.2.block k hk⟩ (hrow.mono H0.out.2.2.2.low) (fun k hk => .inr (hrow.block k hk))
      have hmi : (m : Int) ≤ (n : Int) := by omega
      have hw9 : IntKind.i64.wrap ((n : Int) - (m : Int)) = (n : Int) - (m : Int) := by rw [IntKind.wrap_i64]; omega
      have qf := blk_frozen hqk 0
      clear hrow hmn hqk
      go_wp2_with fail
      go_ret
      exact ⟨by first | rfl | simp, _, HE.out⟩
end Go.Proofs.YthjcmagionaepaaGreat
