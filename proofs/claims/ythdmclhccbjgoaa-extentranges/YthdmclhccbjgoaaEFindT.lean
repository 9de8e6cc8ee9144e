/- package extent: Find. -/
import Derived.Test.YthdmclhccbjgoaaEReads
import Derived.Test.YthdmclhccbjgoaaRFind
namespace Go.Proofs.Ythdmclhccbjgoaa
open Go.RowKit Kit
set_option linter.unusedVariables false

theorem find_yes {l : List Pc} {k : Int} (hr : Rise l) (h : firstI k l < l.length) (h2 : l[firstI k l].off ≤ k) : findB l k = some l[firstI k l] := by
  refine find_at h (fun j hj hjr => ?_) ?_
  · have := to_first (a := k) (l := l) l[j] (List.mem_take_iff_getElem.2 ⟨j, by omega, rfl⟩)
    unfold hasB
    rw [decide_eq_false_iff_not]
    omega
  · have := from_first (a := k) hr l[firstI k l] (List.mem_drop_iff_getElem.2 ⟨0, by omega, by simp⟩)
    unfold hasB
    rw [decide_eq_true_eq]
    omega
theorem find_none9 {l : List Pc} {k : Int} (hr : Rise l) (h : ∀ h : firstI k l < l.length, k < l[firstI k l].off) : findB l k = none := by
  refine find_no fun j hj => ?_
  unfold hasB
  rw [decide_eq_false_iff_not]
  rcases Nat.lt_or_ge j (firstI k l) with h1 | h1
  · have := to_first (a := k) (l := l) l[j] (List.mem_take_iff_getElem.2 ⟨j, by omega, rfl⟩)
    omega
  · have h2 : firstI k l < l.length := by omega
    have h3 := h h2
    rcases Nat.eq_or_lt_of_le h1 with h4 | h4
    · subst h4; omega
    · have := rise_le hr h4 hj
      have := rise_len hr h2
      omega
set_option maxRecDepth 4000 in
set_option maxHeartbeats 8000000 in
theorem efind_any (p B : Nat) (k : Int) (v : Value) (ps : List Pc) (w : World) (hm : EMap w p B v ps) (hr : Rise ps) (hf : Fits ps) (hl : ps.length ≤ 1000) :
    Calls Try.prog 11 #[.pointer (some ⟨p, 0, none⟩), .int .i64 k] w fun e w' => ∃ v, e = .returned v ∧ FindIs ps k v ∧ Below w.heap.size w w' := by
  have HM : Hid (EMap w p B v ps) := hm
  obtain ⟨ao, cap, rfl⟩ := hm.row.sees.form
  obtain ⟨n, hn⟩ : ∃ n, n = ps.length := ⟨_, rfl⟩
  have hs := hm.row.sees
  rw [← hn] at HM hs
  obtain ⟨i, hi⟩ : ∃ z, z = firstI k ps := ⟨_, rfl⟩
  have HF : Hid (∀ W, Below w.heap.size w W → Calls Try.prog 32 #[.pointer (some ⟨p, 0, none⟩), .int .i64 k] W fun e w' => e = .returned (.int .i64 (i : Int)) ∧ Below W.heap.size W w') := fun W hb => by
    rw [hi]
    exact efirst_any p k _ ps W (HM.out.below hb).cell (by rw [hn]; exact hm.row.sees.below hb) hr hf hl
  have hin : i ≤ n := by rw [hi, hn]; exact first_le _ _
  have hini : (i : Int) ≤ (n : Int) := by omega
  have hi0 : (0 : Int) ≤ (i : Int) := by omega
  have hnl : (n : Int) ≤ 1000 := by omega
  by_cases hend : i = n
  · have HN : Hid (findB ps k = none) := find_none9 hr fun h => absurd h (by omega)
    have hei : (i : Int) = (n : Int) := by omega
    clear hm hn hi hs hr hf hl
    subst hend
    go_enter Try.func11, Try.ntmps11
    go_wp2_with (first
      | (go_at_call 31; refine (eall_any p _ _ (HM.out.below (bel_newG _ _)).cell).mono ?_; rintro e w1 ⟨rfl, rfl⟩)
      | (go_at_call 32; refine (HF.out _ (bel_newG _ _)).mono ?_; rintro e w2 ⟨rfl, hb2⟩; have hrb := blk_below hb2 (MapKept.heap_alloc w _).1; have r0 := blk_cell (j := 0) hrb rfl; have r1 := blk_cell (j := 1) hrb rfl; have r2 := blk_cell (j := 2) hrb rfl; have r3 := blk_cell (j := 3) hrb rfl; have rf := blk_frozen hrb; have rl := blk_lt hrb; have HB2 : Hid (Below w.heap.size w w2) := bel_tr (bel_newG _ _) hb2; clear hb2 hrb)
      | fail)
    refine bodyPost_ret (v := .tuple #[.agg #[.int .i64 0, .int .i64 0, .int .i64 0, .int .i64 0], .bool false]) (by simp [results, Try.results11, go_sem, *]) rfl ⟨_, rfl, .inr ⟨HN.out, rfl⟩, ?_⟩
    exact (((HB2.out.setCell (Nat.le_refl _) _).setCell (Nat.le_refl _) _).setCell (Nat.le_refl _) _).setCell (Nat.le_refl _) _
  · have hlt : i < ps.length := by omega
    obtain ⟨g, off, e, hnn, hg, hc⟩ := pc_cells hs (by omega)
    subst e
    obtain ⟨c0, c1, c2, c3⟩ := hc i hlt
    have HN1 : Hid (ps[i].off ≤ k → findB ps k = some ps[i]) := fun h => by
      have h1 : firstI k ps < ps.length := by omega
      have := find_yes hr h1 (by simp only [← hi]; exact h)
      simp only [← hi] at this
      exact this
    have HN2 : Hid (k < ps[i].off → findB ps k = none) := fun h => find_none9 hr fun h1 => by simp only [← hi]; exact h
    obtain ⟨x, hx⟩ : ∃ x, x = ps[i] := ⟨_, rfl⟩
    rw [← hx] at c0 c1 c2 c3 HN1 HN2
    obtain ⟨po, pl, pg, pp⟩ := x
    simp only at c0 c1 c2 c3 HN1 HN2
    have hii : (i : Int) < (n : Int) := by omega
    have hne : ¬ ((i : Int) = (n : Int)) := by omega
    have hdne : ((i : Int) == (n : Int)) = false := by simpa using hne
    have hdn2 : decide ((i : Int) = (n : Int)) = false := by simpa using hne
    have hgl : g < w.heap.size := hg
    have kp : ∀ {a : Nat} {u : Value} {W : World}, Below w.heap.size w W → w.cell? ⟨g, a, none⟩ = some u → W.cell? ⟨g, a, none⟩ = some u := fun hb h => (hb.cell (by exact hg)).trans h
    have KP : Hid (∀ {a : Nat} {u : Value} {W : World}, Below w.heap.size w W → w.cell? ⟨g, a, none⟩ = some u → W.cell? ⟨g, a, none⟩ = some u) := kp
    clear hm hn hi hs hr hf hl hc hx hnn hlt kp hend
    by_cases hk : po ≤ k
    · have hk2 : ¬ k < po := by omega
      go_enter Try.func11, Try.ntmps11
      go_wp2_with (first
        | (go_at_call 31; refine (eall_any p _ _ (HM.out.below (bel_newG _ _)).cell).mono ?_; rintro e w1 ⟨rfl, rfl⟩)
        | (go_at_call 32; refine (HF.out _ (bel_newG _ _)).mono ?_; rintro e w2 ⟨rfl, hb2⟩; have hrb := blk_below hb2 (MapKept.heap_alloc w _).1; have r0 := blk_cell (j := 0) hrb rfl; have r1 := blk_cell (j := 1) hrb rfl; have r2 := blk_cell (j := 2) hrb rfl; have r3 := blk_cell (j := 3) hrb rfl; have rf := blk_frozen hrb; have rl := blk_lt hrb; have HB2 : Hid (Below w.heap.size w w2) := bel_tr (bel_newG _ _) hb2; clear hb2 hrb; have x0 := KP.out HB2.out c0; have x1 := KP.out HB2.out c1; have x2 := KP.out HB2.out c2; have x3 := KP.out HB2.out c3)
        | fail)
      refine bodyPost_ret (v := .tuple #[.agg #[.int .i64 po, .int .i64 pl, .int .i64 pg, .int .i64 pp], .bool true]) (by simp [results, Try.results11, go_sem, *]) rfl ⟨_, rfl, .inl ⟨_, HN1.out hk, rfl⟩, ?_⟩
      exact (((HB2.out.setCell (Nat.le_refl _) _).setCell (Nat.le_refl _) _).setCell (Nat.le_refl _) _).setCell (Nat.le_refl _) _
    · have hk2 : k < po := by omega
      go_enter Try.func11, Try.ntmps11
      go_wp2_with (first
        | (go_at_call 31; refine (eall_any p _ _ (HM.out.below (bel_newG _ _)).cell).mono ?_; rintro e w1 ⟨rfl, rfl⟩)
        | (go_at_call 32; refine (HF.out _ (bel_newG _ _)).mono ?_; rintro e w2 ⟨rfl, hb2⟩; have hrb := blk_below hb2 (MapKept.heap_alloc w _).1; have r0 := blk_cell (j := 0) hrb rfl; have r1 := blk_cell (j := 1) hrb rfl; have r2 := blk_cell (j := 2) hrb rfl; have r3 := blk_cell (j := 3) hrb rfl; have rf := blk_frozen hrb; have rl := blk_lt hrb; have HB2 : Hid (Below w.heap.size w w2) := bel_tr (bel_newG _ _) hb2; clear hb2 hrb; have x0 := KP.out HB2.out c0; have x1 := KP.out HB2.out c1; have x2 := KP.out HB2.out c2; have x3 := KP.out HB2.out c3)
        | fail)
      refine bodyPost_ret (v := .tuple #[.agg #[.int .i64 0, .int .i64 0, .int .i64 0, .int .i64 0], .bool false]) (by simp [results, Try.results11, go_sem, *]) rfl ⟨_, rfl, .inr ⟨HN2.out hk2, rfl⟩, ?_⟩
      exact (((HB2.out.setCell (Nat.le_refl _) _).setCell (Nat.le_refl _) _).setCell (Nat.le_refl _) _).setCell (Nat.le_refl _) _
end Go.Proofs.Ythdmclhccbjgoaa
