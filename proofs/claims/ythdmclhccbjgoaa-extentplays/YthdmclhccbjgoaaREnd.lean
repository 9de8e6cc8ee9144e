/- dolmenref9.Map.End and Pages. -/
import Derived.Test.YthdmclhccbjgoaaRJoined
import Derived.Test.YthdmclhccbjgoaaRSortedI
namespace Go.Proofs.Ythdmclhccbjgoaa
open Go.RowKit Kit
set_option linter.unusedVariables false

theorem ret_i {a b : Int} (h : a = b) : Ending.returned (.int .i64 a) = .returned (.int .i64 b) := by rw [h]
theorem end_nil {ps : List Pc} (h : ps.length = 0) : endB ps = 0 := by
  rw [List.eq_nil_of_length_eq_zero h]; rfl
theorem end_at {ps : List Pc} {m : Nat} (h : ps.length = m + 1) (hm : m < ps.length) : endB ps = ps[m].off + ps[m].len := by
  unfold endB
  rw [List.getLast?_eq_getElem?, show ps.length - 1 = m by omega, List.getElem?_eq_getElem hm]
set_option maxRecDepth 4000 in
set_option maxHeartbeats 4000000 in
theorem rend_any (q : Nat) (ps : List Pc) (w : World) (hm : RMap w q ps) (hl : ps.length ≤ 1000) (hf : Fits ps) :
    Calls Try.prog 22 #[.pointer (some ⟨q, 0, none⟩)] w fun e w' => e = .returned (.int .i64 (endB ps)) ∧ Below w.heap.size w w' := by
  obtain ⟨v, hq, hs⟩ := hm
  obtain ⟨ao, cap, rfl⟩ := hs.form
  have q0 : w.cell? ⟨q, 0, none⟩ = some (.slice ao ps.length cap) := blk_cell hq rfl
  by_cases h0 : ps.length = 0
  · have HE : Hid (endB ps = 0) := end_nil h0
    rw [h0] at q0
    clear hq hs hf
    go_enter Try.func22, Try.ntmps22
    go_wp2
    go_ret
    exact ⟨ret_i HE.out.symm, Below.refl _ _⟩
  · obtain ⟨m, hm1⟩ : ∃ m, ps.length = m + 1 := ⟨ps.length - 1, by omega⟩
    have hml : m < ps.length := by omega
    obtain ⟨B, off, e, hnn, hB, hc⟩ := pc_cells hs (by omega)
    subst e
    obtain ⟨c0, c1, c2, c3⟩ := hc m hml
    have HE : Hid (endB ps = ps[m].off + ps[m].len) := end_at hm1 hml
    have hfp : Fit ps[m] := hf _ (List.getElem_mem _)
    obtain ⟨p, hp⟩ : ∃ p, p = ps[m] := ⟨_, rfl⟩
    rw [← hp] at c0 c1 c2 c3 HE hfp
    clear hp hc hnn hq hs hf
    obtain ⟨f0, f1, f2, f3, f4, f5, f6⟩ := hfp
    obtain ⟨po, pl, pg, pp⟩ := p
    simp only at c0 c1 c2 c3 f0 f1 f2 f3 f4 f5 f6
    have HE : Hid (endB ps = po + pl) := HE.out
    rw [hm1] at q0
    have hmi : (m : Int) ≤ 1000 := by omega
    have hm0 : (0 : Int) ≤ (m : Int) := by omega
    have hmm : ((m + 1 : Nat) : Int) - 1 = (m : Int) := by omega
    clear hm1 hml h0 hl
    go_enter Try.func22, Try.ntmps22
    go_wp2
    go_quiet (fail)
    go_wp2
    go_ret
    exact ⟨ret_i HE.out.symm, bel_drewN9 _ _⟩
theorem iV_snoc (ps : List Pc) (i : Nat) (hi : i < ps.length) : iV ((ps.take (i + 1)).map Pc.page) = iV ((ps.take i).map Pc.page) ++ [.int .i64 ps[i].page] := by
  rw [List.take_succ_eq_append_getElem hi, List.map_append]
  unfold iV
  rw [List.map_append]
  rfl
set_option maxRecDepth 4000 in
set_option maxHeartbeats 4000000 in
theorem rpages_any (q : Nat) (ps : List Pc) (w : World) (hm : RMap w q ps) (hl : ps.length ≤ 1000) :
    Calls Try.prog 20 #[.pointer (some ⟨q, 0, none⟩)] w fun e w' => ∃ r, e = .returned r ∧ RowV w' w.heap.size 3 r (iV (srtI (ps.map Pc.page))) ∧ Below w.heap.size w w' := by
  obtain ⟨v, hq, hs⟩ := hm
  obtain ⟨ao, cap, rfl⟩ := hs.form
  have HQ : Hid (w.heap[q]? = some (.cells #[.slice ao ps.length cap] 29)) := hq
  have HS : Hid (SeesE pcE w (.slice ao ps.length cap) ps) := hs
  have hli : (ps.length : Int) ≤ 1000 := by omega
  clear hq hs
  go_enter Try.func20, Try.ntmps20
  go_wp2
  go_loopw [3, 4] (fun s3 s4 wr => ∃ (i : Nat) (ax : Option Addr) (nx cx : Nat), i ≤ ps.length ∧ s3 = .slice ax nx cx ∧ s4 = .int .i64 (i : Int) ∧ Hid (RowV wr w.heap.size 3 (.slice ax nx cx) (iV ((ps.take i).map Pc.page)) ∧ Below w.heap.size w wr)) (fun _ s4 _ => ps.length - (intOf s4).toNat)
  case atStart => exact ⟨0, none, 0, 0, Nat.zero_le _, rfl, rfl, ⟨rowV_nil _ _ _, Below.refl _ _⟩⟩
  case round =>
    obtain ⟨i, ax, nx, cx, hi, rfl, rfl, HI⟩ := hrel
    have q0 : wr.cell? ⟨q, 0, none⟩ = some (.slice ao ps.length cap) := blk_cell (blk_below HI.out.2 HQ.out) rfl
    by_cases hlt : i < ps.length
    · have hli2 : (i : Int) < (ps.length : Int) := by omega
      have hi0 : (0 : Int) ≤ (i : Int) := by omega
      obtain ⟨B, off, e, hnn, hB, hc⟩ := pc_cells (HS.out.below HI.out.2) (by omega)
      clear hnn
      subst e
      obtain ⟨c0, c1, c2, c3⟩ := hc i hlt
      have HC := iV_snoc ps i hlt
      obtain ⟨p, hp⟩ : ∃ p, p = ps[i] := ⟨_, rfl⟩
      rw [← hp] at c0 c1 c2 c3 HC
      clear hp hc
      obtain ⟨po, pl, pg, pp⟩ := p
      simp only at c0 c1 c2 c3 HC
      have HC : Hid (iV ((ps.take (i + 1)).map Pc.page) = iV ((ps.take i).map Pc.page) ++ [.int .i64 pg]) := HC
      have HL : Hid ((iV ((ps.take i).map Pc.page)).length ≤ 1000) := by
        show _ ≤ _
        rw [iV_len, List.length_map, List.length_take]; omega
      have HS1 : Hid (Sees (wr.alloc (.cells #[.int .i64 pg] 3)) (.slice (some ⟨wr.heap.size, 0, none⟩) 1 1) [.int .i64 pg]) := sees_one wr 3 (.int .i64 pg) _ rfl
      have HR1 : Hid (RowV (wr.alloc (.cells #[.int .i64 pg] 3)) w.heap.size 3 (.slice ax nx cx) (iV ((ps.take i).map Pc.page))) := HI.out.1.below (bel_newG _ _)
      obtain ⟨n1, hn1⟩ : ∃ z, z = (iV ((ps.take i).map Pc.page) ++ [Value.int .i64 pg]).length := ⟨_, rfl⟩
      have HN : Hid (n1 = _) := hn1
      clear hn1 c0 c1 c3
      have HSZ : Hid (w.heap.size ≤ (wr.alloc (.cells #[.int .i64 pg] 3)).heap.size ∧ ((iV ((ps.take i).map Pc.page)).length + [Value.int .i64 pg].length) * 16 ≤ 140737488355328) := by
        have h1 := HI.out.2.size
        have h2 := HL.out
        exact ⟨by simp; omega, by simp only [List.length_cons, List.length_nil]; omega⟩
      go_wp2_with (at_builtin; refine wpList_appV Try.underlying47 infoI9 rfl (by omega) rfl _ _ rfl w.heap.size _ (iV ((ps.take i).map Pc.page)) rfl HR1.out _ [.int .i64 pg] rfl HS1.out (by intro u hu; simp at hu; subst hu; rfl) HSZ.out.2 HSZ.out.1 ?_; intro v' w' k1 k2; have HK : Hid (RowV w' w.heap.size 3 v' (iV ((ps.take i).map Pc.page) ++ [.int .i64 pg]) ∧ Below w.heap.size w w') := ⟨k1, (HI.out.2.alloc HI.out.2.size _).trans k2⟩; obtain ⟨a1, c1', hv1, _⟩ := k1.sees; rw [← HN.out] at hv1; subst hv1; clear k1 k2 HR1 HS1)
      go_wp2
      go_roundw
      case rel => exact ⟨i + 1, _, _, _, by omega, rfl, by go_num, ⟨by rw [HC.out]; exact HK.out.1, HK.out.2⟩⟩
      case measure => simp [intOf]; omega
    · have hli2 : ¬ (i : Int) < (ps.length : Int) := by omega
      have ei : i = ps.length := by omega
      subst ei
      have HE : Hid (RowV wr w.heap.size 3 (.slice ax nx cx) (iV (ps.map Pc.page)) ∧ Below w.heap.size w wr) := by
        have := HI.out
        rw [List.take_length] at this
        exact this
      have HSo : Hid (Calls Try.prog 39 _ wr _) := rsorted_any (.slice ax nx cx) (ps.map Pc.page) wr HE.out.1.sees (by rw [List.length_map]; omega)
      go_wp2_with fail
      go_at_call 39
      refine HSo.out.mono ?_
      rintro e w2 ⟨r, rfl, hr, hb⟩
      have HR : Hid (RowV w2 w.heap.size 3 r (iV (srtI (ps.map Pc.page))) ∧ Below w.heap.size w w2) := ⟨hr.mono HE.out.2.size, bel_tr HE.out.2 hb⟩
      clear hr hb
      go_wp2
      go_ret
      exact ⟨r, rfl, HR.out⟩
end Go.Proofs.Ythdmclhccbjgoaa
