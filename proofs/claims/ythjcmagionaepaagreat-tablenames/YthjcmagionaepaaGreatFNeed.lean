/- package life: At, Needed, Dead. -/
import Derived.Test.YthjcmagionaepaaGreatGLife
import Derived.Test.YthjcmagionaepaaGreatGKit
import Derived.Test.YthjcmagionaepaaGreatRHold
import Derived.Test.YthjcmagionaepaaGreatShelfL
import Derived.Shelf.Sort.Plain
import Derived.Shelf.Slices.In.SortNone
import Derived.Shelf.Slices.Clone
import Derived.Shelf.Slices.SearchI
import Derived.Sort.OwnSortedInts
import Derived.Lib.OwnBridge
import Derived.Lib.RowBridge
namespace Go.Proofs.YthjcmagionaepaaGreat
open Go.RowKit Kit
set_option linter.unusedVariables false

theorem cloneI_any (v : Value) (es : List Int) (w : World) (hv : Sees w v (iV es)) (hl : es.length ≤ 100000) :
    Calls Tryz.prog 67 #[v] w fun e w' => ∃ r, e = .returned r ∧ RowV w' w.heap.size 3 r (iV es) ∧ Below w.heap.size w w' := by
  obtain ⟨ao, cap, rfl, h1, h2, h3, h4⟩ := hv
  rw [iV_len] at h1 h4 ⊢
  cases ao with
  | none =>
    have hc := h3 rfl
    obtain rfl : es = [] := List.eq_nil_of_length_eq_zero (by omega)
    refine (Any.slices_Clone_int_nil Tryz.lays2n15 _ cap w).mono ?_
    rintro e w' ⟨rfl, rfl⟩
    exact ⟨_, rfl, rowV_nil _ _ _, Below.refl _ _⟩
  | some a =>
    by_cases h0 : 0 < es.length
    · obtain ⟨b, off, e, hb, hc⟩ := h4 h0
      cases e
      refine (Any.slices_Clone_int Tryz.lays2n15 b off es.length cap es w (Nat.le_refl _) (by omega) (fun j hj => hc j _ (iV_at es j hj))).mono ?_
      rintro e w' ⟨v', rfl, k1, _, k2⟩
      rw [List.take_length] at k1
      refine ⟨v', rfl, ?_, k2⟩
      unfold RowV
      rw [iV_len]
      exact k1
    · obtain rfl : es = [] := List.eq_nil_of_length_eq_zero (by omega)
      refine (Any.slices_Clone_int_zero Tryz.lays2n15 a cap w).mono ?_
      rintro e w' ⟨v', rfl, k1, _, k2⟩
      exact ⟨v', rfl, k1, k2⟩
theorem rowV_caseL {w : World} {base : Nat} {e : TypeId} {v : Value} {xs : List Value} (h : RowV w base e v xs) : (v = .slice none 0 0 ∧ xs = []) ∨ v ≠ .slice none 0 0 := by
  unfold RowV at h
  rcases h.2 with ⟨h2, h3⟩ | ⟨g, cap, cur, hv, _⟩
  · exact .inl ⟨h2, List.eq_nil_of_length_eq_zero h3⟩
  · exact .inr (by rw [hv]; intro e; cases e)
def sortB (es : List Int) : List Int := es.mergeSort fun x y => decide (x ≤ y)
theorem sortB_len (es : List Int) : (sortB es).length = es.length := List.length_mergeSort es
theorem sortB_mem (es : List Int) (y : Int) : y ∈ sortB es ↔ y ∈ es := List.mem_mergeSort
theorem sortB_le (es : List Int) : (sortB es).Pairwise (· ≤ ·) := by
  have h : (sortB es).Pairwise (fun x y => decide (x ≤ y) = true) := by
    refine List.pairwise_mergeSort ?_ ?_ _
    · intro a b c h1 h2
      rw [decide_eq_true_iff] at *
      omega
    · intro a b
      simp
      omega
  exact h.imp fun h => of_decide_eq_true h
theorem sortG_any (r : Value) (zs : List Int) (w : World) (base : Nat) (hr : RowV w base 3 r (iV zs)) (hl : zs.length ≤ 100000) :
    Calls Tryz.prog 68 #[r] w fun e w' => e = .returned (.tuple #[]) ∧ RowV w' base 3 r (iV (sortB zs)) ∧ w.grownBy w' r.ownBlock := by
  unfold iV sortB at *
  rcases rowV_caseL hr with ⟨rfl, hn⟩ | hne
  · have hn2 : zs = [] := List.map_eq_nil_iff.1 hn
    subst hn2
    refine (Any.slices_Sort_int_none Tryz.lays189 none 0 w).mono ?_
    rintro e w' ⟨rfl, rfl⟩
    exact ⟨rfl, by simpa using hr, ⟨rfl, rfl, rfl, Nat.le_refl _, fun _ _ _ => rfl⟩⟩
  · unfold RowV at hr
    rw [List.length_map] at hr
    obtain ⟨g, cap, rfl, hbg, hgl, hnc, hcm, _, hH⟩ := Lib.holds_of_ownsRow hr hne
    refine (Any.slices_Sort_int Tryz.lays189 g 0 cap zs w hH hgl (by omega)).mono ?_
    rintro e w' ⟨rfl, n, os, rfl⟩
    refine ⟨rfl, ?_, grownBy_sortedI _⟩
    rcases hr.2 with ⟨h0, _⟩ | ⟨g', cap', cur, hv, hb', hh, k1, k2, k3, _⟩
    · cases h0
    cases hv
    have hs := ownsRow_sortedI (n := n) (os := os) (ts := zs.mergeSort fun x y => decide (x ≤ y)) (List.length_mergeSort zs) hb' hh k1 k2 k3
    unfold RowV
    rw [List.length_map, List.length_mergeSort]
    exact hs
set_option maxRecDepth 4000 in
set_option maxHeartbeats 4000000 in
theorem bsI_any (v : Value) (zs : List Int) (x : Int) (w : World) (hv : Sees w v (iV zs)) (hl : zs.length ≤ 100000) (hs : zs.Pairwise (· ≤ ·)) :
    Calls Tryz.prog 70 #[v, .int .i64 x] w fun e w' => e = .returned (.tuple #[.int .i64 (zs.countP (· < x) : Nat), .bool (zs.contains x)]) ∧ Below w.heap.size w w' := by
  obtain ⟨ao, cap, rfl, h1, h2, h3, h4⟩ := hv
  rw [iV_len] at h1 h4 ⊢
  by_cases h0 : 0 < zs.length
  · obtain ⟨b, off, e, hb, hc⟩ := h4 h0
    subst e
    refine (Any.slices_BinarySearch_int Tryz.lays2n25 b off zs.length cap zs x w (Nat.le_refl _) (by omega) (fun j hj => hc j _ (iV_at zs j hj)) (by rw [List.take_length]; exact hs)).mono ?_
    rintro e w' ⟨rfl, q, rfl⟩
    rw [List.take_length]
    exact ⟨rfl, drewNB (Below.refl _ _) q⟩
  · obtain rfl : zs = [] := List.eq_nil_of_length_eq_zero (by omega)
    clear h1 h2 h3 h4 hl hs h0
    go_enter Tryz.func70, Tryz.ntmps70
    go_wp2
    go_loopg [7, 8] 0 (fun g s7 s8 wr => s7 = .int .i64 0 ∧ s8 = .int .i64 0 ∧ wr = w)
    case atStart => exact ⟨rfl, rfl, rfl⟩
    case round =>
      obtain ⟨rfl, rfl, hw⟩ := hrel
      subst hw
      go_wp2
      go_ret2
      exact ⟨rfl, Below.refl _ _⟩
theorem count_split {zs : List Int} (hs : zs.Pairwise (· ≤ ·)) (x : Int) : (∀ j (hj : j < zs.length), j < zs.countP (· < x) → zs[j] < x) ∧ (∀ j (hj : j < zs.length), zs.countP (· < x) ≤ j → x ≤ zs[j]) := by
  induction zs with
  | nil => exact ⟨fun j hj => by simp at hj, fun j hj => by simp at hj⟩
  | cons a r ih =>
    obtain ⟨h1, h2⟩ := List.pairwise_cons.1 hs
    have ih := ih h2
    rw [List.countP_cons]
    by_cases c : a < x
    · simp only [c, decide_true, if_true]
      refine ⟨fun j hj hl => ?_, fun j hj hl => ?_⟩
      · cases j with
        | zero => exact c
        | succ j => exact ih.1 j (by simpa using hj) (by omega)
      · cases j with
        | zero => omega
        | succ j => exact ih.2 j (by simpa using hj) (by omega)
    · have hz : r.countP (· < x) = 0 := by
        rw [List.countP_eq_zero]
        intro t ht
        have := h1 t ht
        simp only [decide_eq_true_eq]
        omega
      simp only [c, decide_false, hz]
      refine ⟨fun j hj hl => by simp at hl, fun j hj _ => ?_⟩
      cases j with
      | zero => simp only [List.getElem_cons_zero]; omega
      | succ j =>
        have := h1 (r[j]'(by simpa using hj)) (List.getElem_mem _)
        simp only [List.getElem_cons_succ]
        omega
/-- What is needed is told by the first epoch from its birth on. -/
theorem need_first {zs es : List Int} (hs : zs.Pairwise (· ≤ ·)) (hm : ∀ y, y ∈ zs ↔ y ∈ es) (b d : Int) :
    needB b d es = (decide (d = 0) || (decide (zs.countP (· < b) < zs.length) && holdsB b d (zs.getD (zs.countP (· < b)) 0))) := by
  unfold needB
  congr 1
  rw [Bool.eq_iff_iff, List.any_eq_true, Bool.and_eq_true, decide_eq_true_iff]
  obtain ⟨h1, h2⟩ := count_split hs b
  constructor
  · rintro ⟨e, he, hh⟩
    obtain ⟨j, hj, rfl⟩ := List.mem_iff_getElem.1 ((hm e).2 he)
    have hbj : b ≤ zs[j] := by unfold holdsB at hh; simp at hh; exact hh.1
    have hij : zs.countP (· < b) ≤ j := by
      by_cases c : j < zs.countP (· < b)
      · have := h1 j hj c; omega
      · omega
    have hi : zs.countP (· < b) < zs.length := by omega
    refine ⟨hi, ?_⟩
    have hbi := h2 _ hi (Nat.le_refl _)
    have hle : zs[zs.countP (· < b)] ≤ zs[j] := by
      by_cases c : zs.countP (· < b) = j
      · simp only [c]; exact Int.le_refl _
      · exact List.pairwise_iff_getElem.1 hs _ j hi hj (by omega)
    rw [getD9 hi]
    unfold holdsB at hh ⊢
    simp at hh ⊢
    refine ⟨hbi, hh.2.imp id fun h => by omega⟩
  · rintro ⟨hi, hh⟩
    rw [getD9 hi] at hh
    exact ⟨_, (hm _).1 (List.getElem_mem hi), hh⟩
/-- The closure that neededAt answers. -/
def NeedFn (w : World) (B : Nat) (v : Value) (zs : List Int) : Prop := ∃ c r, v = .func (.func 69) #[] #[.pointer (some ⟨c, 0, none⟩)] ∧ w.heap[c]? = some (.cells #[r] 32) ∧ RowV w B 3 r (iV zs)
theorem NeedFn.below {w w' : World} {B : Nat} {v : Value} {zs : List Int} (h : NeedFn w B v zs) (hb : Below w.heap.size w w') : NeedFn w' B v zs := by
  obtain ⟨c, r, h1, h2, h3⟩ := h
  exact ⟨c, r, h1, blk_below hb h2, h3.below hb⟩
set_option maxRecDepth 4000 in
set_option maxHeartbeats 4000000 in
theorem fneededAt_any (v : Value) (es : List Int) (w : World) (hv : Sees w v (iV es)) (hl : es.length ≤ 100000) :
    Calls Tryz.prog 57 #[v] w fun e w' => ∃ f, e = .returned f ∧ NeedFn w' w.heap.size f (sortB es) ∧ Below w.heap.size w w' := by
  have HC : Hid (Calls Tryz.prog 67 #[v] w fun e w' => ∃ r, e = .returned r ∧ RowV w' w.heap.size 3 r (iV es) ∧ Below w.heap.size w w') := cloneI_any v es w hv hl
  have HS : Hid (∀ r X, RowV X w.heap.size 3 r (iV es) → Calls Tryz.prog 68 #[r] X fun e w' => e = .returned (.tuple #[]) ∧ RowV w' w.heap.size 3 r (iV (sortB es)) ∧ X.grownBy w' r.ownBlock) := fun r X h => sortG_any r es X _ h hl
  clear hv hl
  go_enter Tryz.func57, Tryz.ntmps57
  go_wp2_with fail
  go_at_call 67
  refine HC.out.mono ?_
  rintro e w1 ⟨r, rfl, hr, hb⟩
  obtain ⟨ao, cap, hrf, _, _, _, _⟩ := hr.sees
  obtain ⟨n, hn⟩ : ∃ n, n = (iV es).length := ⟨_, rfl⟩
  rw [← hn] at hrf
  subst hrf
  clear hn
  obtain ⟨W, hW⟩ : ∃ z, z = w1.alloc (.cells #[.slice ao n cap] 32) := ⟨_, rfl⟩
  have H1 : Hid (RowV w1 w.heap.size 3 (.slice ao n cap) (iV es) ∧ Below w.heap.size w w1) := ⟨hr, hb⟩
  have hbk : W.heap[w1.heap.size]? = some (.cells #[.slice ao n cap] 32) := by rw [hW]; exact (MapKept.heap_alloc w1 _).1
  have H2 : Hid (RowV W w.heap.size 3 (.slice ao n cap) (iV es) ∧ Below w1.heap.size w1 W ∧ W.heap[w1.heap.size]? = some (.cells #[.slice ao n cap] 32)) := by
    have hbe : Below w1.heap.size w1 W := by rw [hW]; exact bel_newG _ _
    exact ⟨H1.out.1.below hbe, hbe, hbk⟩
  have q0 : W.cell? ⟨w1.heap.size, 0, none⟩ = some (.slice ao n cap) := blk_cell hbk rfl
  clear hr hb hbk
  go_upto_region 2 with fail
  rw [← hW]
  clear hW
  go_wp2_with fail
  go_at_call 68
  refine (HS.out _ _ H2.out.1).mono ?_
  rintro e w3 ⟨rfl, hr3, hg3⟩
  have H3 : Hid (NeedFn w3 w.heap.size (.func (.func 69) #[] #[.pointer (some ⟨w1.heap.size, 0, none⟩)]) (sortB es) ∧ Below w.heap.size w w3) := by
    have hne : some w1.heap.size ≠ (Value.slice ao n cap).ownBlock := fun e => by
      obtain ⟨cur, hc⟩ := rowV_obj H1.out.1 e.symm
      have := blk_lt hc
      omega
    refine ⟨⟨_, _, rfl, (hg3.block _ (blk_lt H2.out.2.2) hne).trans H2.out.2.2, hr3⟩, ?_⟩
    exact (bel_tr H1.out.2 H2.out.2.1).grown hg3 (by have h1 := H1.out.2.size; have h2 := H2.out.2.1.size; omega) (fun j hj => rowV_ge H2.out.1 hj)
  clear hr3 hg3
  go_wp2_with fail
  go_ret
  exact ⟨_, rfl, H3.out⟩
set_option maxRecDepth 4000 in
set_option maxHeartbeats 8000000 in
theorem fna1_any (c : Nat) (r : Value) (b d : Int) (zs es : List Int) (w : World) (hc : w.heap[c]? = some (.cells #[r] 32)) (hr : Sees w r (iV zs)) (hl : zs.length ≤ 100000) (hs : zs.Pairwise (· ≤ ·)) (hm : ∀ y, y ∈ zs ↔ y ∈ es) :
    Calls Tryz.prog 69 #[.agg #[.int .i64 b, .int .i64 d], .pointer (some ⟨c, 0, none⟩)] w fun e w' => e = .returned (.bool (needB b d es)) ∧ Below w.heap.size w w' := by
  have HNF := need_first hs hm b d
  have HS : Hid (∀ X, Below w.heap.size w X → Calls Tryz.prog 70 #[r, .int .i64 b] X fun e w' => e = .returned (.tuple #[.int .i64 (zs.countP (· < b) : Nat), .bool (zs.contains b)]) ∧ Below X.heap.size X w') := fun X hb => bsI_any r zs b X (hr.below hb) hl hs
  obtain ⟨i, hi⟩ : ∃ i, i = zs.countP (· < b) := ⟨_, rfl⟩
  have hile : i ≤ zs.length := by rw [hi]; exact List.countP_le_length
  rw [← hi] at HNF HS
  obtain ⟨ao, cap, rfl, h1, h2, h3, h4⟩ := hr
  rw [iV_len] at h4 hc HS
  obtain ⟨n, hn⟩ : ∃ n, n = zs.length := ⟨_, rfl⟩
  rw [← hn] at h4 hc HNF hile HS
  have hcl := blk_lt hc
  have HCC : Hid (w.heap[c]? = some (.cells #[.slice ao n cap] 32)) := hc
  have hin : (i : Int) ≤ (n : Int) := by omega
  have hi0 : (0 : Int) ≤ (i : Int) := by omega
  have hnm : (n : Int) ≤ 100000 := by omega
  have hbx : (w.alloc (.cells #[.int .i64 b, .int .i64 d] 47)).heap[w.heap.size]? = some (.cells #[.int .i64 b, .int .i64 d] 47) := (MapKept.heap_alloc w _).1
  obtain ⟨W, hW⟩ : ∃ z, z = w.alloc (.cells #[.int .i64 b, .int .i64 d] 47) := ⟨_, rfl⟩
  rw [← hW] at hbx
  have HW : Hid (Below w.heap.size w W ∧ W.heap[w.heap.size]? = some (.cells #[.int .i64 b, .int .i64 d] 47)) := ⟨by rw [hW]; exact bel_newG _ _, hbx⟩
  have q0 : W.cell? ⟨c, 0, none⟩ = some (.slice ao n cap) := blk_cell (blk_below HW.out.1 hc) rfl
  have q1 : W.cell? ⟨w.heap.size, 0, none⟩ = some (.int .i64 b) := blk_cell hbx rfl
  have HELEM : Hid (i < n → ∃ B off, ao = some ⟨B, off, none⟩ ∧ B < w.heap.size ∧ w.cell? ⟨B, off + i, none⟩ = some (.int .i64 (zs.getD i 0))) := fun h => by
    obtain ⟨B, off, e, hb, hcc⟩ := h4 (by omega)
    exact ⟨B, off, e, hb, hcc i _ (iV_at zs i (by omega))⟩
  clear hc hs hm hl h1 h2 h3 h4 hbx hi hn
  go_enter Tryz.func69, Tryz.ntmps69
  go_upto_region 1 with fail
  rw [← hW]
  clear hW
  go_wp2_with fail
  go_at_call 70
  refine (HS.out W HW.out.1).mono ?_
  rintro e w2 ⟨rfl, hb2⟩
  have HB2 : Hid (Below w.heap.size w w2 ∧ Below W.heap.size W w2) := ⟨bel_tr HW.out.1 hb2, hb2⟩
  have hbk2 := blk_below hb2 HW.out.2
  have hck2 := blk_below HB2.out.1 HCC.out
  have l0 : c < w2.heap.size := blk_lt hck2
  have l1 : w.heap.size < w2.heap.size := blk_lt hbk2
  have hne := ownW_nonempty w2
  have t0 : ∀ n : OwnW w2, n.1.cell? ⟨w.heap.size, 0, none⟩ = some (.int .i64 b) := fun n => (n.2.cell (by exact l1)).trans (blk_cell hbk2 rfl)
  have t1 : ∀ n : OwnW w2, n.1.cell? ⟨w.heap.size, 1, none⟩ = some (.int .i64 d) := fun n => (n.2.cell (by exact l1)).trans (blk_cell hbk2 rfl)
  have t2 : ∀ m : OwnW w2, m.1.cell? ⟨c, 0, none⟩ = some (.slice ao n cap) := fun m => (m.2.cell (by exact l0)).trans (blk_cell hck2 rfl)
  have HE : Hid (∀ n : OwnW w2, Calls Tryz.prog 47 #[.agg #[.int .i64 b, .int .i64 d]] n.1 fun e w'' => e = .returned (.bool (!decide (d = 0))) ∧ ∃ m : OwnW w2, w'' = m.1) := fun n => Calls.own_of (fended_any b d n.1)
  have HH : Hid (∀ (x : Int) (n : OwnW w2), Calls Tryz.prog 33 #[.agg #[.int .i64 b, .int .i64 d], .int .i64 x] n.1 fun e w'' => e = .returned (.bool (holdsB b d x)) ∧ ∃ m : OwnW w2, w'' = m.1) := fun x n => Calls.own_of (fholds_any b d x n.1)
  clear hb2 q0 q1 hbk2 hck2 HS
  by_cases hd : d = 0
  · subst hd
    have HV : Hid (needB b 0 es = true) := by show _ = _; rw [HNF, decide_eq_true rfl]; rfl
    clear HNF
    go_upto_region 2 with fail
    refine wp_region_own (by kernel_rfl) (by kernel_rfl) ?_
    repeat (go_big_quiet_step (first | exact HE.out _ | exact HH.out _ _))
    refine wpQuiet_nil ?_
    rintro _ ⟨m, rfl⟩
    have HM : Hid (Below w2.heap.size w2 m.1) := m.2
    clear t0 t1 t2
    go_wp2
    go_ret
    exact ⟨by rw [HV.out]; simp, bel_tr HB2.out.1 HM.out⟩
  · have hdf : decide (d = 0) = false := decide_eq_false hd
    by_cases hlt : i < n
    · obtain ⟨B, off, e, hBl, hx⟩ := HELEM.out hlt
      subst e
      obtain ⟨x, hxe⟩ : ∃ x, x = zs.getD i 0 := ⟨_, rfl⟩
      rw [← hxe] at hx
      have HV : Hid (needB b d es = holdsB b d x) := by show _ = _; rw [HNF, hdf, decide_eq_true hlt, hxe]; rfl
      have hii : (i : Int) < (n : Int) := by omega
      have hx2 : w2.cell? ⟨B, off + i, none⟩ = some (.int .i64 x) := (HB2.out.1.cell (by exact hBl)).trans hx
      have l2 : B < w2.heap.size := cell_lt9 hx2
      have t3 : ∀ m : OwnW w2, m.1.cell? ⟨B, off + i, none⟩ = some (.int .i64 x) := fun m => (m.2.cell (by exact l2)).trans hx2
      clear HNF hxe hx hx2 hBl
      go_upto_region 2 with fail
      refine wp_region_own (by kernel_rfl) (by kernel_rfl) ?_
      repeat (go_big_quiet_step (first | exact HE.out _ | exact HH.out _ _))
      refine wpQuiet_nil ?_
      rintro _ ⟨m, rfl⟩
      have HM : Hid (Below w2.heap.size w2 m.1) := m.2
      clear t0 t1 t2 t3
      go_wp2
      go_ret
      exact ⟨by rw [HV.out]; first | rfl | simp [hd], bel_tr HB2.out.1 HM.out⟩
    · have HV : Hid (needB b d es = false) := by show _ = _; rw [HNF, hdf, decide_eq_false hlt]; rfl
      have hii : ¬ (i : Int) < (n : Int) := by omega
      clear HNF
      go_upto_region 2 with fail
      refine wp_region_own (by kernel_rfl) (by kernel_rfl) ?_
      repeat (go_big_quiet_step (first | exact HE.out _ | exact HH.out _ _))
      refine wpQuiet_nil ?_
      rintro _ ⟨m, rfl⟩
      have HM : Hid (Below w2.heap.size w2 m.1) := m.2
      clear t0 t1 t2
      go_wp2
      go_ret
      exact ⟨by rw [HV.out]; simp [hd], bel_tr HB2.out.1 HM.out⟩

end Go.Proofs.YthjcmagionaepaaGreat
