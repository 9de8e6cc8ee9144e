/- dolmenref9.Map.Find. -/
import Derived.Test.YthdmclhccbjgoaaRJoined
namespace Go.Proofs.Ythdmclhccbjgoaa
open Go.RowKit Kit
set_option linter.unusedVariables false

/-- What Find tells. -/
def FindIs (ps : List Pc) (k : Int) (v : Value) : Prop := (∃ p, findB ps k = some p ∧ v = .tuple #[.agg #[.int .i64 p.off, .int .i64 p.len, .int .i64 p.page, .int .i64 p.pos], .bool true]) ∨ (findB ps k = none ∧ v = .tuple #[.agg #[.int .i64 0, .int .i64 0, .int .i64 0, .int .i64 0], .bool false])
theorem find_at {ps : List Pc} {k : Int} {i : Nat} (hi : i < ps.length) (hb : ∀ (j : Nat) (h : j < ps.length), j < i → hasB k ps[j] = false) (hp : hasB k ps[i] = true) : findB ps k = some ps[i] := by
  unfold findB
  rw [List.find?_eq_some_iff_getElem]
  exact ⟨hp, i, hi, rfl, fun j hj => by rw [hb j (by omega) hj]; rfl⟩
theorem find_no {ps : List Pc} {k : Int} (hb : ∀ (j : Nat) (h : j < ps.length), hasB k ps[j] = false) : findB ps k = none := by
  unfold findB
  rw [List.find?_eq_none]
  intro x hx
  obtain ⟨j, hj, rfl⟩ := List.getElem_of_mem hx
  rw [hb j hj]; simp
set_option maxRecDepth 4000 in
set_option maxHeartbeats 4000000 in
theorem rfind_any (q : Nat) (k : Int) (ps : List Pc) (w : World) (hm : RMap w q ps) (hl : ps.length ≤ 1000) (hf : Fits ps) :
    Calls Try.prog 12 #[.pointer (some ⟨q, 0, none⟩), .int .i64 k] w fun e w' => ∃ v, e = .returned v ∧ FindIs ps k v ∧ Below w.heap.size w w' := by
  obtain ⟨v, hq, hs⟩ := hm
  obtain ⟨ao, cap, rfl⟩ := hs.form
  have hbx : (w.alloc (.cells #[.int .i64 0, .int .i64 0, .int .i64 0, .int .i64 0] 32)).heap[w.heap.size]? = some (.cells #[.int .i64 0, .int .i64 0, .int .i64 0, .int .i64 0] 32) := (MapKept.heap_alloc w _).1
  obtain ⟨w0, hw0⟩ : ∃ z, z = w.alloc (.cells #[.int .i64 0, .int .i64 0, .int .i64 0, .int .i64 0] 32) := ⟨_, rfl⟩
  rw [← hw0] at hbx
  have H0 : Hid (Below w.heap.size w w0 ∧ w0.heap[w.heap.size]? = some (.cells #[.int .i64 0, .int .i64 0, .int .i64 0, .int .i64 0] 32) ∧ w0.heap[q]? = some (.cells #[.slice ao ps.length cap] 29) ∧ SeesE pcE w0 (.slice ao ps.length cap) ps) := by
    have h1 : Below w.heap.size w w0 := by rw [hw0]; exact bel_newG _ _
    exact ⟨h1, hbx, blk_below h1 hq, hs.below h1⟩
  have HF : Hid (Fits ps) := hf
  have hli : (ps.length : Int) ≤ 1000 := by omega
  clear hq hs hf hbx
  go_enter Try.func12, Try.ntmps12
  go_upto_region 1 with fail
  rw [← hw0]
  clear hw0
  go_wp2
  go_loopw [6] (fun s6 wr => ∃ i : Nat, i ≤ ps.length ∧ s6 = .int .i64 (i : Int) ∧ Hid ((∀ (j : Nat) (h : j < ps.length), j < i → hasB k ps[j] = false) ∧ Below w0.heap.size w0 wr)) (fun s6 _ => ps.length - (intOf s6).toNat)
  case atStart => exact ⟨0, Nat.zero_le _, rfl, ⟨fun j _ h => by omega, Below.refl _ _⟩⟩
  case round =>
    obtain ⟨i, hi, rfl, HI⟩ := hrel
    have q0 : wr.cell? ⟨q, 0, none⟩ = some (.slice ao ps.length cap) := blk_cell (blk_below HI.out.2 H0.out.2.2.1) rfl
    have hbx := blk_below HI.out.2 H0.out.2.1
    have b0 : wr.cell? ⟨w.heap.size, 0, none⟩ = some (.int .i64 0) := blk_cell hbx rfl
    have b1 : wr.cell? ⟨w.heap.size, 1, none⟩ = some (.int .i64 0) := blk_cell hbx rfl
    have b2 : wr.cell? ⟨w.heap.size, 2, none⟩ = some (.int .i64 0) := blk_cell hbx rfl
    have b3 : wr.cell? ⟨w.heap.size, 3, none⟩ = some (.int .i64 0) := blk_cell hbx rfl
    have bf : ∀ j, wr.frozen? ⟨w.heap.size, j, none⟩ = false := blk_frozen hbx
    have bl : w.heap.size < wr.heap.size := blk_lt hbx
    clear hbx
    by_cases hlt : i < ps.length
    · have hli2 : (i : Int) < (ps.length : Int) := by omega
      have hi0 : (0 : Int) ≤ (i : Int) := by omega
      obtain ⟨B, off, e, hnn, hB, hc⟩ := pc_cells (H0.out.2.2.2.below HI.out.2) (by omega)
      clear hnn
      subst e
      obtain ⟨c0, c1, c2, c3⟩ := hc i hlt
      obtain ⟨p, hp⟩ : ∃ p, p = ps[i] := ⟨_, rfl⟩
      have HP : Hid (p = ps[i]) := hp
      have hfp : Fit p := by rw [hp]; exact HF.out _ (List.getElem_mem _)
      rw [← hp] at c0 c1 c2 c3
      clear hp hc
      obtain ⟨f0, f1, f2, f3, f4, f5, f6⟩ := hfp
      obtain ⟨po, pl, pg, pp⟩ := p
      simp only at c0 c1 c2 c3 f0 f1 f2 f3 f4 f5 f6
      by_cases h1 : po ≤ k
      · by_cases h2 : k < po + pl
        · have HN : Hid (findB ps k = some ⟨po, pl, pg, pp⟩) := by
            show _ = _
            rw [HP.out]
            exact find_at hlt HI.out.1 (by rw [← HP.out]; simp [hasB, h1, h2])
          go_wp2
          go_quiet (fail)
          obtain ⟨wq, hwq⟩ : ∃ z, z = wr.drewN nq := ⟨_, rfl⟩
          have HWQ : Hid (Below wr.heap.size wr wq) := by rw [hwq]; exact bel_drewN9 _ _
          rw [← hwq]
          have d0 : wq.cell? ⟨B, off + i * 4, none⟩ = some (.int .i64 po) := (HWQ.out.cell (by exact hB)).trans c0
          have d1 : wq.cell? ⟨B, off + i * 4 + 1, none⟩ = some (.int .i64 pl) := (HWQ.out.cell (by exact hB)).trans c1
          have d2 : wq.cell? ⟨B, off + i * 4 + 2, none⟩ = some (.int .i64 pg) := (HWQ.out.cell (by exact hB)).trans c2
          have d3 : wq.cell? ⟨B, off + i * 4 + 3, none⟩ = some (.int .i64 pp) := (HWQ.out.cell (by exact hB)).trans c3
          have qq : wq.cell? ⟨q, 0, none⟩ = some (.slice (some ⟨B, off, none⟩) ps.length cap) := by rw [hwq]; exact q0
          have e0 : wq.cell? ⟨w.heap.size, 0, none⟩ = some (.int .i64 0) := by rw [hwq]; exact b0
          have e1 : wq.cell? ⟨w.heap.size, 1, none⟩ = some (.int .i64 0) := by rw [hwq]; exact b1
          have e2 : wq.cell? ⟨w.heap.size, 2, none⟩ = some (.int .i64 0) := by rw [hwq]; exact b2
          have e3 : wq.cell? ⟨w.heap.size, 3, none⟩ = some (.int .i64 0) := by rw [hwq]; exact b3
          have ef : ∀ j, wq.frozen? ⟨w.heap.size, j, none⟩ = false := by rw [hwq]; exact bf
          have el : w.heap.size < wq.heap.size := by rw [hwq]; exact bl
          have HEN : Hid (Below w.heap.size w wq) := bel_tr H0.out.1 (bel_tr HI.out.2 HWQ.out)
          clear hwq q0 b0 b1 b2 b3 bf bl c0 c1 c2 c3
          go_wp2
          refine bodyPost_ret (v := .tuple #[.agg #[.int .i64 po, .int .i64 pl, .int .i64 pg, .int .i64 pp], .bool true]) (by simp [results, Try.results12, go_sem, *]) rfl ⟨_, rfl, .inl ⟨_, HN.out, rfl⟩, ?_⟩
          exact (((HEN.out.setCell (Nat.le_refl _) _).setCell (Nat.le_refl _) _).setCell (Nat.le_refl _) _).setCell (Nat.le_refl _) _
        · have HX : Hid (hasB k ps[i] = false) := by show _ = _; rw [← HP.out]; simp [hasB, h1, h2]
          go_wp2
          go_quiet (fail)
          go_wp2
          go_roundw
          case rel => exact ⟨i + 1, by omega, by go_num, ⟨fun j hj hji => by
            rcases Nat.lt_or_ge j i with h | h
            · exact HI.out.1 j hj h
            · obtain rfl : j = i := by omega
              exact HX.out, bel_tr HI.out.2 (bel_drewN9 _ _)⟩⟩
          case measure => simp [intOf]; omega
      · have HX : Hid (hasB k ps[i] = false) := by show _ = _; rw [← HP.out]; simp [hasB, h1]
        have hd : decide (po ≤ k) = false := by simpa using h1
        have hk9 : k < po := by omega
        go_wp2
        go_quiet (fail)
        go_wp2
        go_roundw
        case rel => exact ⟨i + 1, by omega, by go_num, ⟨fun j hj hji => by
          rcases Nat.lt_or_ge j i with h | h
          · exact HI.out.1 j hj h
          · obtain rfl : j = i := by omega
            exact HX.out, bel_tr HI.out.2 (bel_drewN9 _ _)⟩⟩
        case measure => simp [intOf]; omega
    · have hli2 : ¬ (i : Int) < (ps.length : Int) := by omega
      have HN : Hid (findB ps k = none) := find_no fun j hj => HI.out.1 j hj (by omega)
      have HEN : Hid (Below w.heap.size w wr) := bel_tr H0.out.1 HI.out.2
      go_wp2
      refine bodyPost_ret (v := .tuple #[.agg #[.int .i64 0, .int .i64 0, .int .i64 0, .int .i64 0], .bool false]) (by simp [results, Try.results12, go_sem, *]) rfl ⟨_, rfl, .inr ⟨HN.out, rfl⟩, ?_⟩
      first
        | exact HEN.out
        | exact (((HEN.out.setCell (Nat.le_refl _) _).setCell (Nat.le_refl _) _).setCell (Nat.le_refl _) _).setCell (Nat.le_refl _) _
end Go.Proofs.Ythdmclhccbjgoaa
