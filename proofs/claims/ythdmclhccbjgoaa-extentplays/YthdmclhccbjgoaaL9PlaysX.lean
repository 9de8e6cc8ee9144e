/- Merged: ShelfI, ESortI, EPages, LInts, LAwake9, LPlay9, L9Plays. -/
import Derived.Shelf.Sort.Plain
import Derived.Shelf.Slices.In.SortNone
import Derived.Shelf.Slices.CompactI
import Derived.Test.YthdmclhccbjgoaaProg
import Derived.Test.YthdmclhccbjgoaaMSrt
import Derived.Test.YthdmclhccbjgoaaRSortedI
import Derived.Sort.OwnSortedInts
import Derived.Lib.OwnBridge
import Derived.Lib.RowBridge
import Derived.Lib.SlicesCompact
import Derived.Test.YthdmclhccbjgoaaEReads
import Derived.Test.YthdmclhccbjgoaaREnd
import Derived.Test.YthdmclhccbjgoaaEPut
import Derived.Test.YthdmclhccbjgoaaECut
import Derived.Test.YthdmclhccbjgoaaLCode
import Derived.Test.YthdmclhccbjgoaaEDoes2
import Derived.Test.YthdmclhccbjgoaaEFindT
import Derived.Test.YthdmclhccbjgoaaERangeM
import Derived.Test.YthdmclhccbjgoaaLPieces
import Derived.Test.YthdmclhccbjgoaaLSteps
import Derived.Deep.RegionHeld3
import Derived.Test.YthdmclhccbjgoaaRFind
import Derived.Test.YthdmclhccbjgoaaRRange
/- The library's contracts laid at this program: the tables of numbers, and the bodies held against each other. -/
namespace Go.Proofs
open Go.Shelf
def Try.lays189_ren : Go.Shelf.Ren := ⟨fun | 189 => 37 | 125 => 51 | 257 => 50 | 128 => 69 | 129 => 70 | 294 => 60 | 295 => 61 | 296 => 62 | 297 => 63 | 298 => 64 | 299 => 65 | 216 => 66 | 300 => 67 | 301 => 68 | 328 => 73 | 329 => 74 | 330 => 75 | 331 => 76 | 332 => 77 | 215 => 78 | 343 => 80 | n => n, fun | 28 => 47 | 3 => 3 | 46 => 83 | 0 => 0 | 51 => 105 | 53 => 107 | 4 => 4 | 183 => 97 | 182 => 96 | 131 => 102 | 5 => 5 | 9 => 9 | 218 => 120 | 222 => 124 | 228 => 128 | 229 => 67 | n => n, fun | n => n⟩
theorem Try.lays189 : Go.Proofs.Lays.n189 Try.prog Try.lays189_ren := {
  mixed := by kernel_rfl
  f125 := Try.func51.trans (congrArg some (by kernel_rfl))
  f128 := Try.func69.trans (congrArg some (by kernel_rfl))
  f129 := Try.func70.trans (congrArg some (by kernel_rfl))
  f189 := Try.func37.trans (congrArg some (by kernel_rfl))
  f215 := Try.func78.trans (congrArg some (by kernel_rfl))
  f216 := Try.func66.trans (congrArg some (by kernel_rfl))
  f257 := Try.func50.trans (congrArg some (by kernel_rfl))
  f294 := Try.func60.trans (congrArg some (by kernel_rfl))
  f295 := Try.func61.trans (congrArg some (by kernel_rfl))
  f296 := Try.func62.trans (congrArg some (by kernel_rfl))
  f297 := Try.func63.trans (congrArg some (by kernel_rfl))
  f298 := Try.func64.trans (congrArg some (by kernel_rfl))
  f299 := Try.func65.trans (congrArg some (by kernel_rfl))
  f300 := Try.func67.trans (congrArg some (by kernel_rfl))
  f301 := Try.func68.trans (congrArg some (by kernel_rfl))
  f328 := Try.func73.trans (congrArg some (by kernel_rfl))
  f329 := Try.func74.trans (congrArg some (by kernel_rfl))
  f330 := Try.func75.trans (congrArg some (by kernel_rfl))
  f331 := Try.func76.trans (congrArg some (by kernel_rfl))
  f332 := Try.func77.trans (congrArg some (by kernel_rfl))
  f343 := Try.func80.trans (congrArg some (by kernel_rfl))
  t0 := Try.underlying0
  a0 := Try.isAgg0
  z0 := Try.sizeOf0
  v0 := Try.zeroValue0
  t3 := Try.underlying3
  a3 := Try.isAgg3
  z3 := Try.sizeOf3
  v3 := Try.zeroValue3
  t4 := Try.underlying4
  a4 := Try.isAgg4
  z4 := Try.sizeOf4
  v4 := Try.zeroValue4
  t5 := Try.underlying5
  a5 := Try.isAgg5
  z5 := Try.sizeOf5
  v5 := Try.zeroValue5
  t9 := Try.underlying9
  a9 := Try.isAgg9
  z9 := Try.sizeOf9
  v9 := Try.zeroValue9
  t28 := Try.underlying47
  a28 := Try.isAgg47
  z28 := Try.sizeOf47
  v28 := Try.zeroValue47
  t46 := Try.underlying83
  a46 := Try.isAgg83
  z46 := Try.sizeOf83
  v46 := Try.zeroValue83
  t51 := Try.underlying105
  a51 := Try.isAgg105
  z51 := Try.sizeOf105
  v51 := Try.zeroValue105
  t53 := Try.underlying107
  a53 := Try.isAgg107
  z53 := Try.sizeOf107
  v53 := Try.zeroValue107
  t131 := Try.underlying102
  a131 := Try.isAgg102
  z131 := Try.sizeOf102
  v131 := Try.zeroValue102
  t182 := Try.underlying96
  a182 := Try.isAgg96
  z182 := Try.sizeOf96
  v182 := Try.zeroValue96
  t183 := Try.underlying97
  a183 := Try.isAgg97
  z183 := Try.sizeOf97
  v183 := Try.zeroValue97
  t218 := Try.underlying120
  a218 := Try.isAgg120
  z218 := Try.sizeOf120
  v218 := Try.zeroValue120
  t222 := Try.underlying124
  a222 := Try.isAgg124
  z222 := Try.sizeOf124
  v222 := Try.zeroValue124
  t228 := Try.underlying128
  a228 := Try.isAgg128
  z228 := Try.sizeOf128
  v228 := Try.zeroValue128
  t229 := Try.underlying67
  a229 := Try.isAgg67
  z229 := Try.sizeOf67
  v229 := Try.zeroValue67 }
def Try.lays2n20_ren : Go.Shelf.Ren := ⟨fun | 20 => 38 | n => n, fun | 22 => 47 | 3 => 3 | 4 => 4 | 0 => 0 | n => n, fun | n => n⟩
theorem Try.lays2n20 : Go.Proofs.Lays2.n20 Try.prog Try.lays2n20_ren := {
  mixed := by kernel_rfl
  f20 := Try.func38.trans (congrArg some (by kernel_rfl))
  t0 := Try.underlying0
  a0 := Try.isAgg0
  z0 := Try.sizeOf0
  v0 := Try.zeroValue0
  t3 := Try.underlying3
  a3 := Try.isAgg3
  z3 := Try.sizeOf3
  v3 := Try.zeroValue3
  t4 := Try.underlying4
  a4 := Try.isAgg4
  z4 := Try.sizeOf4
  v4 := Try.zeroValue4
  t22 := Try.underlying47
  a22 := Try.isAgg47
  z22 := Try.sizeOf47
  v22 := Try.zeroValue47
  i3 := by kernel_rfl }
end Go.Proofs
/- Numbers sorted, each once: what slices.Sort and slices.Compact make of a row of the call's own. -/
namespace Go.Proofs.Ythdmclhccbjgoaa
open Go.RowKit Kit
set_option linter.unusedVariables false

theorem compact_memI (d : Array Int) (y : Int) : ∀ m, y ∈ Lib.compactUpTo d m ↔ ∃ j, j < m ∧ d[j]! = y
  | 0 => by simp [Lib.compactUpTo]
  | m + 1 => by
    rw [Lib.compactUpTo_succ, List.mem_append, compact_memI d y m]
    constructor
    · rintro (⟨j, hj, e⟩ | h)
      · exact ⟨j, by omega, e⟩
      · split at h
        · exact ⟨m, by omega, (List.mem_singleton.1 h).symm⟩
        · simp at h
    · rintro ⟨j, hj, e⟩
      by_cases hjm : j = m
      · subst hjm
        by_cases hk : Lib.keeps d j = true
        · right; rw [if_pos hk]; simp [e]
        · left
          have h0 : ¬ (j = 0 ∨ d[j]! ≠ d[j - 1]!) := by
            intro h; exact hk (by unfold Lib.keeps; exact decide_eq_true h)
          have h1 : j ≠ 0 := fun h => h0 (.inl h)
          have h2 : d[j]! = d[j - 1]! := Decidable.byContradiction fun h => h0 (.inr h)
          exact ⟨j - 1, by omega, by rw [← h2]; exact e⟩
      · left; exact ⟨j, by omega, e⟩
theorem compact_risingI (d : Array Int) (m : Nat) (h : ∀ i j, i ≤ j → j < m → d[i]! ≤ d[j]!) : (Lib.compactUpTo d m).Pairwise (fun x y => x < y) := by
  unfold Lib.compactUpTo
  rw [List.pairwise_map]
  have h1 : ((List.range m).filter (Lib.keeps d)).Pairwise (fun x y => x < y) := List.Pairwise.filter _ List.pairwise_lt_range
  refine List.Pairwise.imp_of_mem ?_ h1
  intro i j hi hj hij
  obtain ⟨hj1, hj2⟩ := List.mem_filter.1 hj
  have hjm := List.mem_range.1 hj1
  unfold Lib.keeps at hj2
  have hk := of_decide_eq_true hj2
  have h2 : d[j]! ≠ d[j - 1]! := hk.resolve_left (by omega)
  have h3 := h i (j - 1) (by omega) (by omega)
  have h4 := h (j - 1) j (by omega) hjm
  omega
theorem uniq_srt (l : List Int) : Lib.compact (l.mergeSort fun x y => decide (x ≤ y)) = srtI l := by
  have hs : (l.mergeSort fun x y => decide (x ≤ y)).Pairwise (fun x y => decide (x ≤ y) = true) := by
    refine List.pairwise_mergeSort ?_ ?_ _
    · intro a b c h1 h2
      rw [decide_eq_true_iff] at *
      omega
    · intro a b
      simp
      omega
  obtain ⟨s, hse⟩ : ∃ s, s = l.mergeSort fun x y => decide (x ≤ y) := ⟨_, rfl⟩
  have hm : ∀ y, y ∈ s ↔ y ∈ l := fun y => by rw [hse]; exact List.mem_mergeSort
  rw [← hse] at hs ⊢
  have hget : ∀ i (h : i < s.length), s.toArray[i]! = s[i] := fun i h => by simp [h]
  refine ups_ext _ _ ?_ (srt_ok l).1 (fun y => ?_)
  · unfold Lib.compact
    refine compact_risingI _ _ fun i j hij hj => ?_
    have hj : j < s.length := by simpa using hj
    rw [hget i (by omega), hget j hj]
    by_cases e : i = j
    · subst e; exact Int.le_refl _
    · exact of_decide_eq_true (List.pairwise_iff_getElem.1 hs i j (by omega) hj (by omega))
  · rw [(srt_ok l).2 y, ← hm y]
    unfold Lib.compact
    rw [compact_memI]
    constructor
    · rintro ⟨j, hj, e⟩
      have hj : j < s.length := by simpa using hj
      rw [hget j hj] at e
      rw [← e]
      exact List.getElem_mem hj
    · intro h
      obtain ⟨j, hj, e⟩ := List.getElem_of_mem h
      exact ⟨j, by simpa using hj, by rw [hget j hj]; exact e⟩
theorem rowV_caseI {w : World} {base : Nat} {e : TypeId} {v : Value} {xs : List Value} (h : RowV w base e v xs) : (v = .slice none 0 0 ∧ xs = []) ∨ v ≠ .slice none 0 0 := by
  unfold RowV at h
  rcases h.2 with ⟨h2, h3⟩ | ⟨g, cap, cur, hv, _⟩
  · exact .inl ⟨h2, List.eq_nil_of_length_eq_zero h3⟩
  · exact .inr (by rw [hv]; intro e; cases e)
theorem sortI_any (r : Value) (zs : List Int) (w : World) (base : Nat) (hr : RowV w base 3 r (iV zs)) (hl : zs.length ≤ 100000) (hb : base ≤ w.heap.size) :
    Calls Try.prog 37 #[r] w fun e w' => e = .returned (.tuple #[]) ∧ RowV w' base 3 r (iV (zs.mergeSort fun x y => decide (x ≤ y))) ∧ Below base w w' := by
  unfold iV at *
  rcases rowV_caseI hr with ⟨rfl, hn⟩ | hne
  · have hn2 : zs = [] := List.map_eq_nil_iff.1 hn
    subst hn2
    refine (Any.slices_Sort_int_none Try.lays189 none 0 w).mono ?_
    rintro e w' ⟨rfl, rfl⟩
    exact ⟨rfl, by simpa using hr, Below.refl _ _⟩
  · unfold RowV at hr
    rw [List.length_map] at hr
    obtain ⟨g, cap, rfl, hbg, hgl, hnc, hcm, _, hH⟩ := Lib.holds_of_ownsRow hr hne
    refine (Any.slices_Sort_int Try.lays189 g 0 cap zs w hH hgl (by omega)).mono ?_
    rintro e w' ⟨rfl, n, os, rfl⟩
    refine ⟨rfl, ?_, (Below.refl _ _).grown (grownBy_sortedI _) hb (fun j hj => by cases hj; exact hbg)⟩
    rcases hr.2 with ⟨h0, _⟩ | ⟨g', cap', cur, hv, hb', hh, k1, k2, k3, _⟩
    · cases h0
    cases hv
    have hs := ownsRow_sortedI (n := n) (os := os) (ts := zs.mergeSort fun x y => decide (x ≤ y)) (List.length_mergeSort zs) hb' hh k1 k2 k3
    unfold RowV
    rw [List.length_map, List.length_mergeSort]
    exact hs
theorem compI_any (r : Value) (zs : List Int) (w : World) (base : Nat) (hr : RowV w base 3 r (iV zs)) (hl : zs.length ≤ 100000) :
    Calls Try.prog 38 #[r] w fun e w' => ∃ r', e = .returned r' ∧ RowV w' base 3 r' (iV (Lib.compact zs)) ∧ Below base w w' := by
  unfold iV at *
  rcases rowV_caseI hr with ⟨rfl, hn⟩ | hne
  · have hn2 : zs = [] := List.map_eq_nil_iff.1 hn
    subst hn2
    refine (Any.slices_Compact_int_empty Try.lays2n20 none 0 w).mono ?_
    rintro e w' ⟨rfl, rfl⟩
    exact ⟨_, rfl, rowV_nil _ _ _, Below.refl _ _⟩
  · unfold RowV at hr
    rw [List.length_map] at hr
    obtain ⟨g, cap, rfl, hbg, hgl, hnc, hcm, _, hH⟩ := Lib.holds_of_ownsRow hr hne
    refine (Any.slices_Compact_int Try.lays2n20 g 0 cap zs w hH (by omega) hnc).mono ?_
    rintro e w' ⟨rfl, q, rfl⟩
    have hle := Lib.compact_length_le zs
    have hc := Lib.ownsRow_putRow (q := q) (k := (Lib.compact zs).length) (ys := Lib.compact zs ++ List.replicate (zs.length - (Lib.compact zs).length) 0) hr (by simp; omega) hle
    rw [List.take_left] at hc
    refine ⟨_, rfl, ?_, Lib.below_putRow (Below.refl _ _) hbg⟩
    unfold RowV
    rw [List.length_map]
    exact hc
end Go.Proofs.Ythdmclhccbjgoaa
/- (*extent.Map).Pages. -/
namespace Go.Proofs.Ythdmclhccbjgoaa
open Go.RowKit Kit
set_option linter.unusedVariables false

set_option maxRecDepth 4000 in
set_option maxHeartbeats 4000000 in
theorem epages_any (p B : Nat) (v : Value) (ps : List Pc) (w : World) (hm : EMap w p B v ps) (hl : ps.length ≤ 1000) :
    Calls Try.prog 19 #[.pointer (some ⟨p, 0, none⟩)] w fun e w' => ∃ r, e = .returned r ∧ RowV w' w.heap.size 3 r (iV (srtI (ps.map Pc.page))) ∧ Below w.heap.size w w' := by
  have HM : Hid (EMap w p B v ps) := hm
  obtain ⟨ao, cap, rfl⟩ := hm.row.sees.form
  obtain ⟨n, hn⟩ : ∃ n, n = ps.length := ⟨_, rfl⟩
  have HNL : Hid (n = ps.length) := hn
  have hs := hm.row.sees
  rw [← hn] at HM hs
  have HS : Hid (SeesE pcE w (.slice ao n cap) ps) := hs
  have hli : (n : Int) ≤ 1000 := by omega
  clear hm hs hn
  go_enter Try.func19, Try.ntmps19
  go_wp2_with (go_at_call 31; refine (eall_any p _ _ HM.out.cell).mono ?_; rintro e w1 ⟨rfl, hw1⟩; subst w1)
  go_loopw [3, 9] (fun s3 s9 wr => ∃ (i : Nat) (ax : Option Addr) (nx cx : Nat), i ≤ n ∧ s3 = .slice ax nx cx ∧ s9 = .int .i64 (i : Int) ∧ Hid (RowV wr w.heap.size 3 (.slice ax nx cx) (iV ((ps.take i).map Pc.page)) ∧ Below w.heap.size w wr)) (fun _ s9 _ => n - (intOf s9).toNat)
  case atStart => exact ⟨0, none, 0, 0, Nat.zero_le _, rfl, rfl, ⟨rowV_nil _ _ _, Below.refl _ _⟩⟩
  case round =>
    obtain ⟨i, ax, nx, cx, hi, rfl, rfl, HI⟩ := hrel
    by_cases hlt : i < n
    · have hli2 : (i : Int) < (n : Int) := by omega
      have hi0 : (0 : Int) ≤ (i : Int) := by omega
      have hil : i < ps.length := by have := HNL.out; omega
      obtain ⟨bb, off, e, hnn, hB, hc⟩ := pc_cells (HS.out.below HI.out.2) (by omega)
      clear hnn
      subst e
      obtain ⟨c0, c1, c2, c3⟩ := hc i hil
      have HC := iV_snoc ps i hil
      obtain ⟨q, hq⟩ : ∃ q, q = ps[i] := ⟨_, rfl⟩
      rw [← hq] at c0 c1 c2 c3 HC
      clear hq hc
      obtain ⟨po, pl, pg, pp⟩ := q
      simp only at c0 c1 c2 c3 HC
      have HC : Hid (iV ((ps.take (i + 1)).map Pc.page) = iV ((ps.take i).map Pc.page) ++ [.int .i64 pg]) := HC
      have HL : Hid ((iV ((ps.take i).map Pc.page)).length ≤ 1000) := by
        show _ ≤ _
        rw [iV_len, List.length_map, List.length_take]; omega
      go_upto_region 5 with fail
      obtain ⟨W1, hW1⟩ : ∃ z, z = wr.alloc (.cells #[.int .i64 po, .int .i64 pl, .int .i64 pg, .int .i64 pp] 35) := ⟨_, rfl⟩
      have hh : W1.heap[wr.heap.size]? = some (.cells #[.int .i64 po, .int .i64 pl, .int .i64 pg, .int .i64 pp] 35) := by rw [hW1]; exact (MapKept.heap_alloc wr _).1
      have hbl : Below wr.heap.size wr W1 := by rw [hW1]; exact bel_newG _ _
      have x2 : W1.cell? ⟨wr.heap.size, 2, none⟩ = some (.int .i64 pg) := blk_cell hh rfl
      have HI1 : Hid (RowV W1 w.heap.size 3 (.slice ax nx cx) (iV ((ps.take i).map Pc.page)) ∧ Below w.heap.size w W1) := ⟨HI.out.1.below hbl, bel_tr HI.out.2 hbl⟩
      rw [← hW1]
      clear hW1 hh hbl HI c0 c1 c2 c3 hB
      have HS1 : Hid (Sees (W1.alloc (.cells #[.int .i64 pg] 3)) (.slice (some ⟨W1.heap.size, 0, none⟩) 1 1) [.int .i64 pg]) := sees_one W1 3 (.int .i64 pg) _ rfl
      have HR1 : Hid (RowV (W1.alloc (.cells #[.int .i64 pg] 3)) w.heap.size 3 (.slice ax nx cx) (iV ((ps.take i).map Pc.page))) := HI1.out.1.below (bel_newG _ _)
      obtain ⟨n1, hn1⟩ : ∃ z, z = (iV ((ps.take i).map Pc.page) ++ [Value.int .i64 pg]).length := ⟨_, rfl⟩
      have HN : Hid (n1 = _) := hn1
      clear hn1
      have HSZ : Hid (w.heap.size ≤ (W1.alloc (.cells #[.int .i64 pg] 3)).heap.size ∧ ((iV ((ps.take i).map Pc.page)).length + [Value.int .i64 pg].length) * 16 ≤ 140737488355328) := by
        have h1 := HI1.out.2.size
        have h2 := HL.out
        exact ⟨by simp; omega, by simp only [List.length_cons, List.length_nil]; omega⟩
      go_wp2_with (at_builtin; refine wpList_appV Try.underlying47 infoI9 rfl (by omega) rfl _ _ rfl w.heap.size _ (iV ((ps.take i).map Pc.page)) rfl HR1.out _ [.int .i64 pg] rfl HS1.out (by intro u hu; simp at hu; subst hu; rfl) HSZ.out.2 HSZ.out.1 ?_; intro v' w' k1 k2; have HK : Hid (RowV w' w.heap.size 3 v' (iV ((ps.take i).map Pc.page) ++ [.int .i64 pg]) ∧ Below w.heap.size w w') := ⟨k1, (HI1.out.2.alloc HI1.out.2.size _).trans k2⟩; obtain ⟨a1, c1', hv1, _⟩ := k1.sees; rw [← HN.out] at hv1; subst hv1; clear k1 k2 HR1 HS1)
      go_wp2
      go_roundw
      case rel => exact ⟨i + 1, _, _, _, by omega, rfl, by go_num, ⟨by rw [HC.out]; exact HK.out.1, HK.out.2⟩⟩
      case measure => simp [intOf]; omega
    · have hli2 : ¬ (i : Int) < (n : Int) := by omega
      have HE : Hid (RowV wr w.heap.size 3 (.slice ax nx cx) (iV (ps.map Pc.page)) ∧ Below w.heap.size w wr) := by
        have := HI.out
        rw [List.take_of_length_le (by have := HNL.out; omega)] at this
        exact this
      have HLN : Hid ((ps.map Pc.page).length ≤ 1000) := by have := HNL.out; show _ ≤ _; rw [List.length_map]; omega
      clear HI hi hlt HS HM HNL
      go_wp2_with fail
      go_at_call 37
      refine (sortI_any _ (ps.map Pc.page) wr w.heap.size HE.out.1 (by have := HLN.out; omega) HE.out.2.size).mono ?_
      rintro e w2 ⟨rfl, k1, k2⟩
      have H2 : Hid (RowV w2 w.heap.size 3 (.slice ax nx cx) (iV ((ps.map Pc.page).mergeSort fun x y => decide (x ≤ y))) ∧ Below w.heap.size w w2) := ⟨k1, HE.out.2.trans k2⟩
      clear k1 k2 HE
      go_wp2_with fail
      go_at_call 38
      refine (compI_any _ _ w2 w.heap.size H2.out.1 (by rw [List.length_mergeSort]; have := HLN.out; omega)).mono ?_
      rintro e w3 ⟨r, rfl, k1, k2⟩
      have H3 : Hid (RowV w3 w.heap.size 3 r (iV (srtI (ps.map Pc.page))) ∧ Below w.heap.size w w3) := ⟨by rw [← uniq_srt]; exact k1, H2.out.2.trans k2⟩
      clear k1 k2 H2
      go_wp2_with fail
      go_ret
      exact ⟨r, rfl, H3.out⟩
end Go.Proofs.Ythdmclhccbjgoaa
/- dolmenref5.Ints of what is the same. -/
namespace Go.Proofs.Ythdmclhccbjgoaa
open Go.RowKit Kit
set_option linter.unusedVariables false

set_option maxRecDepth 4000 in
set_option maxHeartbeats 2000000 in
theorem ints_same (x y : Value) (l : List Int) (w : World) (hx : Sees w x (iV l)) (hy : Sees w y (iV l)) :
    Calls Try.prog 18 #[x, y] w fun e w' => e = .returned (.bool true) ∧ Below w.heap.size w w' := by
  obtain ⟨ao, cap, rfl, h1, h2, h3, h4⟩ := hx
  obtain ⟨bo, cap', rfl, g1, g2, g3, g4⟩ := hy
  simp only [iV_len] at *
  have hm : (l.length : Int) ≤ 9223372036854775807 := by unfold maxLen at h2; omega
  have H4 : Hid (_ → _) := h4
  have G4 : Hid (_ → _) := g4
  clear h1 h2 h3 g1 g2 g3 h4 g4
  go_enter Try.func18, Try.ntmps18
  go_wp2
  go_loopw [5] (fun i wr => ∃ k : Nat, k ≤ l.length ∧ i = .int .i64 (k : Int) ∧ Hid (Below w.heap.size w wr)) (fun i _ => l.length - (intOf i).toNat)
  case atStart => exact ⟨0, Nat.zero_le _, rfl, Below.refl _ _⟩
  case round =>
    obtain ⟨k, hk, rfl, HB⟩ := hrel
    by_cases hlt : k < l.length
    · obtain ⟨b, off, rfl, hbl, hc⟩ := H4.out (by omega)
      obtain ⟨b', off', rfl, hbl', hc'⟩ := G4.out (by omega)
      have c0 := (HB.out.cell (by exact hbl)).trans (hc k _ (iV_at l k hlt))
      have c1 := (HB.out.cell (by exact hbl')).trans (hc' k _ (iV_at l k hlt))
      have i0 : (k : Int) < (l.length : Int) := by omega
      have i2 : (0 : Int) ≤ (k : Int) := by omega
      clear hc hc' hbl hbl'
      go_wp2
      go_region
      go_wp2
      go_roundw
      case rel => exact ⟨k + 1, by omega, by simp, HB.out.drew⟩
      case measure => simp [intOf]; omega
    · have i0 : ¬ (k : Int) < (l.length : Int) := by omega
      go_wp2
      go_ret
      exact ⟨rfl, HB.out⟩
end Go.Proofs.Ythdmclhccbjgoaa
/- dolmenlaw9.awake. -/
namespace Go.Proofs.Ythdmclhccbjgoaa
open Go.RowKit Kit
set_option linter.unusedVariables false

theorem Turn9.below {p B : Nat} {v v' : Value} {w0 w w' : World} (h : Turn9 p v v' w w') (h0 : Below B w0 w) (hB : B ≤ w.heap.size) (hp : B ≤ p) (hv : ∀ k, v.ownBlock = some k → B ≤ k) : Below B w0 w' :=
  ⟨h.os.trans h0.os, h.tape.trans h0.tape, h.output.trans h0.output, Nat.le_trans h0.size h.size, fun k hk => (h.block k (by omega) (by omega) (fun e => by have := hv k e; omega)).trans (h0.block k hk)⟩
theorem awake_1 : putB [] ⟨0, 10, 1, 0⟩ = [⟨0, 10, 1, 0⟩] := by rfl
theorem awake_2 : putB [⟨0, 10, 1, 0⟩] ⟨3, 2, 2, 0⟩ = [⟨0, 3, 1, 0⟩, ⟨3, 2, 2, 0⟩, ⟨5, 5, 1, 5⟩] := by rfl
set_option maxRecDepth 4000 in
set_option maxHeartbeats 8000000 in
theorem awake9_any (w : World) : Calls Try.prog 8 #[] w fun e w' => e = .returned (.bool true) ∧ Below w.heap.size w w' := by
  have HN : Hid (EMap (w.alloc (.cells #[.slice none 0 0] 59)) w.heap.size (w.heap.size + 1) (.slice none 0 0) [] ∧ Below w.heap.size w (w.alloc (.cells #[.slice none 0 0] 59))) := ⟨enew_map w, bel_newG _ _⟩
  go_enter Try.func8, Try.ntmps8
  go_wp2_with fail
  go_at_call 9
  refine (enew_any w).mono ?_
  rintro e w1 ⟨rfl, hw1⟩
  rw [← hw1] at HN
  clear hw1
  go_wp2_with fail
  go_at_call 25
  refine (eput_good w.heap.size _ 0 10 1 0 _ [] _ HN.out.1 good9_nil (by simp) (by unfold Put9; simp only; omega)).mono ?_
  rw [awake_1]
  rintro e w2 ⟨rfl, v2, hm2, ht2⟩
  have H2 : Hid (EMap w2 w.heap.size (w.heap.size + 1) v2 [⟨0, 10, 1, 0⟩] ∧ Below w.heap.size w w2 ∧ Good9 [⟨0, 10, 1, 0⟩]) := ⟨hm2, ht2.below HN.out.2 HN.out.2.size (Nat.le_refl _) (fun k hk => by simp [Value.ownBlock] at hk), by rw [← awake_1]; exact good9_put good9_nil (by unfold Fit; simp only; omega)⟩
  clear hm2 ht2
  go_wp2_with fail
  go_at_call 25
  refine (eput_good w.heap.size _ 3 2 2 0 _ _ _ H2.out.1 H2.out.2.2 (by simp) (by unfold Put9; simp only; omega)).mono ?_
  rw [awake_2]
  rintro e w3 ⟨rfl, v3, hm3, ht3⟩
  have H3 : Hid (EMap w3 w.heap.size (w.heap.size + 1) v3 [⟨0, 3, 1, 0⟩, ⟨3, 2, 2, 0⟩, ⟨5, 5, 1, 5⟩] ∧ Below w.heap.size w w3 ∧ Fits [⟨0, 3, 1, 0⟩, ⟨3, 2, 2, 0⟩, ⟨5, 5, 1, 5⟩]) := ⟨hm3, ht3.below H2.out.2.1 H2.out.2.1.size (Nat.le_refl _) (fun k hk => by have := H2.out.1.row.block k hk; omega), by rw [← awake_2]; exact fits_put H2.out.2.2.fits (by unfold Fit; simp only; omega)⟩
  clear hm3 ht3
  go_wp2_with fail
  go_at_call 14
  refine (epieces_any w.heap.size _ _ _ _ H3.out.1 (by simp)).mono ?_
  rintro e w4 ⟨v4, rfl, k1, k2⟩
  obtain ⟨a4, c4, hv4⟩ := k1.sees.form
  have hv4 : v4 = .slice a4 3 c4 := hv4
  subst hv4
  have H4 : Hid (EMap w4 w.heap.size (w.heap.size + 1) v3 [⟨0, 3, 1, 0⟩, ⟨3, 2, 2, 0⟩, ⟨5, 5, 1, 5⟩] ∧ Below w.heap.size w w4) := ⟨H3.out.1.below k2, bel_tr H3.out.2.1 k2⟩
  clear k1 k2
  have HE4 : Hid (Calls Try.prog 21 #[.pointer (some ⟨w.heap.size, 0, none⟩)] w4 fun e w' => e = .returned (.int .i64 10) ∧ Below w4.heap.size w4 w') := eend_any w.heap.size _ _ _ _ H4.out.1 (by simp) H3.out.2.2
  go_wp2_with fail
  go_at_call 21
  refine HE4.out.mono ?_
  rintro e w5 ⟨rfl, hb5⟩
  have H5 : Hid (Below w.heap.size w w5) := bel_tr H4.out.2 hb5
  clear hb5 HE4
  go_wp2_with (first
    | (go_at_call 24; refine (ecut_bad w.heap.size 3 2 _ (.inr (.inl (by omega)))).mono ?_; rintro e w6 ⟨rfl, rfl⟩)
    | (go_at_call 27; refine (code_num 12 _ (by omega) (by omega)).mono ?_; rintro e w7 ⟨rfl, rfl⟩)
    | fail)
  go_ret
  exact ⟨rfl, H5.out⟩
end Go.Proofs.Ythdmclhccbjgoaa
/- The laws of stage 9: what they share. -/
namespace Go.Proofs.Ythdmclhccbjgoaa
open Go.RowKit Kit
set_option linter.unusedVariables false

/-- What is left of a list of steps. -/
noncomputable def playB (ss : List St9) : List Pc := ss.foldl (fun ps s => stepB s ps) []
theorem fold_good : ∀ (ss : List St9) (ps : List Pc), Good9 ps → Good9 (ss.foldl (fun ps s => stepB s ps) ps) ∧ (ss.foldl (fun ps s => stepB s ps) ps).length ≤ ps.length + 2 * ss.length
  | [], ps, h => ⟨h, by simp⟩
  | s :: ss, ps, h => by
    have h1 := step_good (s := s) h
    have h2 := fold_good ss (stepB s ps) h1.1
    rw [List.foldl_cons, List.length_cons]
    exact ⟨h2.1, by omega⟩
theorem play_good (ss : List St9) : Good9 (playB ss) ∧ (playB ss).length ≤ 2 * ss.length := by
  have := fold_good ss [] good9_nil
  simp only [List.length_nil, Nat.zero_add] at this
  exact this
theorem play_snoc (ss : List St9) (i : Nat) (hi : i < ss.length) : playB (ss.take (i + 1)) = stepB ss[i] (playB (ss.take i)) := by
  unfold playB
  rw [List.take_succ_eq_append_getElem hi, List.foldl_append, List.foldl_cons, List.foldl_nil]
theorem play_nil : playB [] = [] := rfl
theorem play_new (w : World) : Both9 ((w.alloc (.cells #[.slice none 0 0] 59)).alloc (.cells #[.slice none 0 0] 29)) w.heap.size (w.heap.size + 1) (w.heap.size + 1) (.slice none 0 0) (.slice none 0 0) [] :=
  ⟨(enew_map w).below (bel_newG _ _), alloc_at _ _ (by simp), seesE_nil pcE _, by omega, by simp [Value.ownBlock], fun h => by simp at h, fun h => by simp at h⟩
/-- A step's cells. -/
theorem st_cells {w : World} {ao : Option Addr} {n cap : Nat} {ss : List St9} (h : SeesE stE w (.slice ao n cap) ss) (h0 : 0 < ss.length) : ∃ b off, ao = some ⟨b, off, none⟩ ∧ n = ss.length ∧ b < w.heap.size ∧ ∀ (i : Nat) (hi : i < ss.length),
    w.cell? ⟨b, off + i * 7, none⟩ = some (.int .i64 ss[i].kind) ∧ w.cell? ⟨b, off + i * 7 + 1, none⟩ = some (.int .i64 ss[i].pc.off) ∧ w.cell? ⟨b, off + i * 7 + 2, none⟩ = some (.int .i64 ss[i].pc.len) ∧ w.cell? ⟨b, off + i * 7 + 3, none⟩ = some (.int .i64 ss[i].pc.page) ∧ w.cell? ⟨b, off + i * 7 + 4, none⟩ = some (.int .i64 ss[i].pc.pos) ∧ w.cell? ⟨b, off + i * 7 + 5, none⟩ = some (.int .i64 ss[i].a) ∧ w.cell? ⟨b, off + i * 7 + 6, none⟩ = some (.int .i64 ss[i].b) := by
  obtain ⟨b, off, e, e2, hl, hh⟩ := h.cells h0
  exact ⟨b, off, e, e2, hl, fun i hi => ⟨hh i hi 0 _ rfl, hh i hi 1 _ rfl, hh i hi 2 _ rfl, hh i hi 3 _ rfl, hh i hi 4 _ rfl, hh i hi 5 _ rfl, hh i hi 6 _ rfl⟩⟩
/-- A range of all is all. -/
theorem range_all {ps : List Pc} (hf : Fits ps) {b : Int} (hb : 2147483648 ≤ b) : rangeB ps 0 b = ps := by
  unfold rangeB
  induction ps with
  | nil => rfl
  | cons x l ih =>
    have hx := hf x (List.mem_cons_self ..)
    unfold Fit at hx
    rw [List.flatMap_cons, ih fun y hy => hf y (List.mem_cons_of_mem _ hy)]
    have h1 : max x.off 0 = x.off := by omega
    have h2 : min (x.off + x.len) b = x.off + x.len := by omega
    rw [h1, h2, if_pos (by omega)]
    unfold Pc.sub
    have h3 : x.off + x.len - x.off = x.len := by omega
    have h4 : x.pos + x.off - x.off = x.pos := by omega
    rw [h3, h4]
    rfl
theorem apart_at {l : List Pc} (h : Apart l) : ∀ (i : Nat) (hi : i + 1 < l.length), touchB (l[i]'(by omega)) l[i + 1] = false := by
  induction l with
  | nil => intro i hi; simp at hi
  | cons x l ih =>
    intro i hi
    cases i with
    | zero =>
      cases l with
      | nil => simp at hi
      | cons y l => exact h.1 y rfl
    | succ i => exact ih h.2 i (by simpa using hi)
end Go.Proofs.Ythdmclhccbjgoaa
/- dolmenlaw9.ExtentPlays. -/
namespace Go.Proofs.Ythdmclhccbjgoaa
open Go.RowKit Kit
set_option linter.unusedVariables false

theorem find_det (ps : List Pc) (k : Int) : ∃ (x : Pc) (ok : Bool), ∀ v, FindIs ps k v → v = .tuple #[.agg #[.int .i64 x.off, .int .i64 x.len, .int .i64 x.page, .int .i64 x.pos], .bool ok] := by
  cases h : findB ps k with
  | none =>
    refine ⟨⟨0, 0, 0, 0⟩, false, fun v hv => ?_⟩
    rcases hv with ⟨p, hp, _⟩ | ⟨_, e⟩
    · rw [h] at hp; cases hp
    · exact e
  | some p =>
    refine ⟨p, true, fun v hv => ?_⟩
    rcases hv with ⟨p2, hp, e⟩ | ⟨hn, _⟩
    · rw [h] at hp; injection hp with hp; rw [hp]; exact e
    · rw [h] at hn; cases hn
set_option maxRecDepth 4000 in
set_option maxHeartbeats 16000000 in
theorem plays_any (v0 : Value) (ss : List St9) (off tu : Int) (w : World) (hs : SeesE stE w v0 ss) :
    Calls Try.prog 3 #[v0, .int .i64 off, .int .i64 tu] w fun e w' => e = .returned (.bool true) ∧ Below w.heap.size w w' := by
  obtain ⟨ao, cap, rfl⟩ := hs.form
  obtain ⟨n, hn⟩ : ∃ n, n = ss.length := ⟨_, rfl⟩
  rw [← hn] at hs ⊢
  have HS : Hid (SeesE stE w (.slice ao n cap) ss) := hs
  have HN : Hid (n = ss.length) := hn
  clear hs hn
  by_cases hbig : 80 < n
  · have hbi : (80 : Int) < (n : Int) := by omega
    go_enter Try.func3, Try.ntmps3
    go_wp2_with (go_at_call 8; refine (awake9_any _).mono ?_; rintro e w1 ⟨rfl, hb1⟩)
    go_ret
    exact ⟨rfl, hb1⟩
  have hnN : (n : Int) ≤ 80 := by omega
  go_enter Try.func3, Try.ntmps3
  go_wp2_with (go_at_call 9; refine (enew_any _).mono ?_; rintro e w1 ⟨rfl, rfl⟩)
  have HP0 : Hid (Both9 ((w.alloc (.cells #[.slice none 0 0] 59)).alloc (.cells #[.slice none 0 0] 29)) w.heap.size (w.heap.size + 1) (w.heap.size + 1) (.slice none 0 0) (.slice none 0 0) (playB (ss.take 0)) ∧ Below w.heap.size w ((w.alloc (.cells #[.slice none 0 0] 59)).alloc (.cells #[.slice none 0 0] 29))) := ⟨play_new w, bel_tr (bel_newG _ _) (bel_newG _ _)⟩
  go_loopw [9] (fun s wr => ∃ (i : Nat) (v u : Value), i ≤ n ∧ s = .int .i64 (i : Int) ∧ Hid (Both9 wr w.heap.size (w.heap.size + 1) (w.heap.size + 1) v u (playB (ss.take i)) ∧ Below w.heap.size w wr)) (fun s _ => n - (intOf s).toNat)
  case atStart => exact ⟨0, _, _, Nat.zero_le _, rfl, HP0.out⟩
  case round =>
    obtain ⟨i, v, u, hi, rfl, HI⟩ := hrel
    clear HP0
    by_cases hlt : i < n
    · have hii : (i : Int) < (n : Int) := by omega
      have hi0 : (0 : Int) ≤ (i : Int) := by omega
      have hil : i < ss.length := by have := HN.out; omega
      obtain ⟨b, off, e, hnn, hb, hc⟩ := st_cells (HS.out.below HI.out.2) (by omega)
      subst e
      obtain ⟨c0, c1, c2, c3, c4, c5, c6⟩ := hc i hil
      have HSN : Hid (playB (ss.take (i + 1)) = stepB ss[i] (playB (ss.take i))) := play_snoc ss i hil
      have HD : Hid (Calls Try.prog 10 #[.pointer (some ⟨w.heap.size, 0, none⟩), .pointer (some ⟨w.heap.size + 1, 0, none⟩), .agg (stE.c ss[i]).toArray] wr fun e w' => e = .returned (.bool true) ∧ ∃ v' u', Both9 w' w.heap.size (w.heap.size + 1) (w.heap.size + 1) v' u' (stepB ss[i] (playB (ss.take i))) ∧ Turn10 w.heap.size (w.heap.size + 1) v v' wr w') := by
        have hg := play_good (ss.take i)
        have hl : (ss.take i).length ≤ n := by rw [List.length_take]; omega
        exact does9_any _ _ _ ss[i] v u _ wr HI.out.1 hg.1 (by omega)
      obtain ⟨s, hs⟩ : ∃ s, s = ss[i] := ⟨_, rfl⟩
      rw [← hs] at c0 c1 c2 c3 c4 c5 c6 HSN HD
      clear hs hc hnn
      obtain ⟨sk, ⟨po, pl, pg, pp⟩, sa, sb⟩ := s
      simp only at c0 c1 c2 c3 c4 c5 c6
      go_wp2_with (go_at_call 10; refine HD.out.mono ?_; rintro e w2 ⟨rfl, v2, u2, hb2, ht2⟩; have HI2 : Hid (Both9 w2 w.heap.size (w.heap.size + 1) (w.heap.size + 1) v2 u2 (playB (ss.take (i + 1))) ∧ Below w.heap.size w w2) := ⟨by rw [HSN.out]; exact hb2, ht2.below HI.out.2 HI.out.2.size (Nat.le_refl _) (Nat.le_succ _) (fun k hk => by have := HI.out.1.em.row.block k hk; omega)⟩; clear hb2 ht2)
      go_roundw
      case rel => exact ⟨i + 1, _, _, by omega, by go_num, HI2.out⟩
      case measure => simp [intOf]; omega
    · have hin : ¬ (i : Int) < (n : Int) := by omega
      obtain ⟨ps, hps⟩ : ∃ z, z = playB (ss.take i) := ⟨_, rfl⟩
      have HG : Hid (Good9 ps ∧ ps.length ≤ 900) := by
        have hg := play_good (ss.take i)
        have hl : (ss.take i).length ≤ n := by rw [List.length_take]; omega
        rw [hps]
        exact ⟨hg.1, by omega⟩
      rw [← hps] at HI
      clear hps
      obtain ⟨wo, rfl⟩ : ∃ z, z = wr := ⟨_, rfl⟩
      clear HS HN hbig
      obtain ⟨x, ok, hx⟩ := find_det ps off
      have HX : Hid (∀ v, FindIs ps off v → v = .tuple #[.agg #[.int .i64 x.off, .int .i64 x.len, .int .i64 x.page, .int .i64 x.pos], .bool ok]) := hx
      clear hx
      obtain ⟨xo, xl, xg, xp⟩ := x
      simp only at HX
      go_wp2_with fail
      go_at_call 11
      refine (efind_any w.heap.size _ off v ps wo HI.out.1.em HG.out.1.can.1 HG.out.1.fits (by have := HG.out.2; omega)).mono ?_
      rintro e w2 ⟨v2, rfl, hfi, hb2⟩
      have hv2 := HX.out _ hfi
      subst hv2
      clear hfi
      simp only
      go_upto_region 13 with fail
      obtain ⟨W1, hW1⟩ : ∃ z, z = w2.alloc (.cells #[.int .i64 xo, .int .i64 xl, .int .i64 xg, .int .i64 xp] 35) := ⟨_, rfl⟩
      have hh : W1.heap[w2.heap.size]? = some (.cells #[.int .i64 xo, .int .i64 xl, .int .i64 xg, .int .i64 xp] 35) := by rw [hW1]; exact (MapKept.heap_alloc w2 _).1
      have H1 : Hid (Below wo.heap.size wo W1 ∧ W1.heap[w2.heap.size]? = some (.cells #[.int .i64 xo, .int .i64 xl, .int .i64 xg, .int .i64 xp] 35)) := ⟨bel_tr hb2 (by rw [hW1]; exact bel_newG _ _), hh⟩
      rw [← hW1]
      clear hW1 hh hb2
      go_wp2_with fail
      go_at_call 12
      refine (rfind_any (w.heap.size + 1) off ps W1 ⟨u, (HI.out.1.below H1.out.1).rc, (HI.out.1.below H1.out.1).rs⟩ (by have := HG.out.2; omega) HG.out.1.fits).mono ?_
      rintro e w3 ⟨v3, rfl, hfi, hb3⟩
      have hv3 := HX.out _ hfi
      subst hv3
      clear hfi HX
      simp only
      go_upto_region 14 with fail
      obtain ⟨W2, hW2⟩ : ∃ z, z = w3.alloc (.cells #[.int .i64 xo, .int .i64 xl, .int .i64 xg, .int .i64 xp] 32) := ⟨_, rfl⟩
      have hh : W2.heap[w3.heap.size]? = some (.cells #[.int .i64 xo, .int .i64 xl, .int .i64 xg, .int .i64 xp] 32) := by rw [hW2]; exact (MapKept.heap_alloc w3 _).1
      have hbl : Below W1.heap.size W1 W2 := bel_tr hb3 (by rw [hW2]; exact bel_newG _ _)
      rw [← hW2]
      have ha := blk_below hbl H1.out.2
      have HB2 : Hid (Both9 W2 w.heap.size (w.heap.size + 1) (w.heap.size + 1) v u ps ∧ Below w.heap.size w W2) := ⟨HI.out.1.below (bel_tr H1.out.1 hbl), bel_tr HI.out.2 (bel_tr H1.out.1 hbl)⟩
      clear hW2 hbl hb3 HI H1
      have hq := HB2.out.1.rc
      have HKQ : Hid (∀ {X : World}, Below W2.heap.size W2 X → X.cell? ⟨w.heap.size + 1, 0, none⟩ = some u ∧ X.cell? ⟨w2.heap.size, 0, none⟩ = some (.int .i64 xo) ∧ X.cell? ⟨w2.heap.size, 1, none⟩ = some (.int .i64 xl) ∧ X.cell? ⟨w2.heap.size, 2, none⟩ = some (.int .i64 xg) ∧ X.cell? ⟨w2.heap.size, 3, none⟩ = some (.int .i64 xp) ∧ X.cell? ⟨w3.heap.size, 0, none⟩ = some (.int .i64 xo) ∧ X.cell? ⟨w3.heap.size, 1, none⟩ = some (.int .i64 xl) ∧ X.cell? ⟨w3.heap.size, 2, none⟩ = some (.int .i64 xg) ∧ X.cell? ⟨w3.heap.size, 3, none⟩ = some (.int .i64 xp)) := fun hb =>
        have k0 := blk_below hb hq
        have k1 := blk_below hb ha
        have k2 := blk_below hb hh
        ⟨blk_cell k0 rfl, blk_cell k1 rfl, blk_cell k1 rfl, blk_cell k1 rfl, blk_cell k1 rfl, blk_cell k2 rfl, blk_cell k2 rfl, blk_cell k2 rfl, blk_cell k2 rfl⟩
      have hpl : ps.length ≤ 1000 := by have := HG.out.2; omega
      have HRL : Hid ((rangeB ps off tu).length ≤ 100000) := by have := rng_len ps off tu; show _ ≤ _; omega
      have HPI : Hid (∀ X, Below W2.heap.size W2 X → Calls Try.prog 14 #[.pointer (some ⟨w.heap.size, 0, none⟩)] X fun e w' => ∃ v', e = .returned v' ∧ RowE pcE w' X.heap.size 35 v' ps ∧ Below X.heap.size X w') := fun X hb => epieces_any w.heap.size _ v ps X (HB2.out.1.em.below hb) (by omega)
      have HRG : Hid (∀ X, Below W2.heap.size W2 X → Calls Try.prog 16 #[.pointer (some ⟨w.heap.size, 0, none⟩), .int .i64 off, .int .i64 tu] X fun e w' => ∃ v', e = .returned v' ∧ RowE pcE w' X.heap.size 35 v' (rangeB ps off tu) ∧ Below X.heap.size X w') := fun X hb => erange_any w.heap.size _ off tu v ps X (HB2.out.1.em.below hb) HG.out.1.can.1 HG.out.1.fits hpl
      have HXR : Hid (∀ X, Below W2.heap.size W2 X → Calls Try.prog 17 #[.pointer (some ⟨w.heap.size + 1, 0, none⟩), .int .i64 off, .int .i64 tu] X fun e w' => ∃ v', e = .returned v' ∧ RowE pcE w' X.heap.size 32 v' (rangeB ps off tu) ∧ Below X.heap.size X w') := fun X hb => rrange_any (w.heap.size + 1) off tu ps X ⟨u, (HB2.out.1.below hb).rc, (HB2.out.1.below hb).rs⟩ hpl HG.out.1.fits
      have HPG : Hid (∀ X, Below W2.heap.size W2 X → Calls Try.prog 19 #[.pointer (some ⟨w.heap.size, 0, none⟩)] X fun e w' => ∃ r, e = .returned r ∧ RowV w' X.heap.size 3 r (iV (srtI (ps.map Pc.page))) ∧ Below X.heap.size X w') := fun X hb => epages_any w.heap.size _ v ps X (HB2.out.1.em.below hb) hpl
      have HXP : Hid (∀ X, Below W2.heap.size W2 X → Calls Try.prog 20 #[.pointer (some ⟨w.heap.size + 1, 0, none⟩)] X fun e w' => ∃ r, e = .returned r ∧ RowV w' X.heap.size 3 r (iV (srtI (ps.map Pc.page))) ∧ Below X.heap.size X w') := fun X hb => rpages_any (w.heap.size + 1) ps X ⟨u, (HB2.out.1.below hb).rc, (HB2.out.1.below hb).rs⟩ hpl
      have HEE : Hid (∀ X, Below W2.heap.size W2 X → Calls Try.prog 21 #[.pointer (some ⟨w.heap.size, 0, none⟩)] X fun e w' => e = .returned (.int .i64 (endB ps)) ∧ Below X.heap.size X w') := fun X hb => eend_any w.heap.size _ v ps X (HB2.out.1.em.below hb) hpl HG.out.1.fits
      have HXE : Hid (∀ X, Below W2.heap.size W2 X → Calls Try.prog 22 #[.pointer (some ⟨w.heap.size + 1, 0, none⟩)] X fun e w' => e = .returned (.int .i64 (endB ps)) ∧ Below X.heap.size X w') := fun X hb => rend_any (w.heap.size + 1) ps X ⟨u, (HB2.out.1.below hb).rc, (HB2.out.1.below hb).rs⟩ hpl HG.out.1.fits
      obtain ⟨en, hen⟩ : ∃ z, z = endB ps := ⟨_, rfl⟩
      rw [← hen] at HEE HXE
      have hok : (ok == ok) = true := beq_self_eq_true ok
      clear hq ha hh hen
      have hpl5 : ps.length ≤ 100000 := by omega
      go_region_held3 (fun X => X.cell? ⟨w.heap.size + 1, 0, none⟩ = some u ∧ X.cell? ⟨w2.heap.size, 0, none⟩ = some (.int .i64 xo) ∧ X.cell? ⟨w2.heap.size, 1, none⟩ = some (.int .i64 xl) ∧ X.cell? ⟨w2.heap.size, 2, none⟩ = some (.int .i64 xg) ∧ X.cell? ⟨w2.heap.size, 3, none⟩ = some (.int .i64 xp) ∧ X.cell? ⟨w3.heap.size, 0, none⟩ = some (.int .i64 xo) ∧ X.cell? ⟨w3.heap.size, 1, none⟩ = some (.int .i64 xl) ∧ X.cell? ⟨w3.heap.size, 2, none⟩ = some (.int .i64 xg) ∧ X.cell? ⟨w3.heap.size, 3, none⟩ = some (.int .i64 xp)) (first | exact HKQ.out (bel_drew W2) | exact HKQ.out hw4 | exact HKQ.out hw5 | exact HKQ.out hw6 | exact HKQ.out hw7 | exact HKQ.out hw8 | exact HKQ.out hw9 | exact HKQ.out hw10 | exact HKQ.out hw11 | exact HKQ.out hw12 | exact HKQ.out hw13 | exact HKQ.out hw14 | exact HKQ.out hw15)
        (first
          | (go_at_call 13; refine (lpieces_any _ _ (rangeB ps off tu) _ (k7.sees.below b8) k8.sees HRL.out).mono ?_; rintro e w9 ⟨rfl, b9⟩; have hw9 : Below W2.heap.size W2 w9 := bel_tr hw8 b9)
          | (go_at_call 14; refine (HPI.out _ (bel_drew W2)).mono ?_; rintro e w4 ⟨v4, rfl, k4, b4⟩; have hw4 : Below W2.heap.size W2 w4 := bel_tr (bel_drew W2) b4)
          | (go_at_call 13; refine (lpieces_any _ u ps _ k4.sees (HB2.out.1.rs.below hw4) hpl5).mono ?_; rintro e w5 ⟨rfl, b5⟩; have hw5 : Below W2.heap.size W2 w5 := bel_tr hw4 b5)
          | (go_at_call 15; refine (lpiece_any xo xl xg xp _).mono ?_; rintro e w6 ⟨rfl, b6⟩; have hw6 : Below W2.heap.size W2 w6 := bel_tr hw5 b6)
          | (go_at_call 16; refine (HRG.out _ hw6).mono ?_; rintro e w7 ⟨v7, rfl, k7, b7⟩; have hw7 : Below W2.heap.size W2 w7 := bel_tr hw6 b7)
          | (go_at_call 17; refine (HXR.out _ hw7).mono ?_; rintro e w8 ⟨v8, rfl, k8, b8⟩; have hw8 : Below W2.heap.size W2 w8 := bel_tr hw7 b8)
          | (go_at_call 19; refine (HPG.out _ hw9).mono ?_; rintro e w10 ⟨v10, rfl, k10, b10⟩; have hw10 : Below W2.heap.size W2 w10 := bel_tr hw9 b10)
          | (go_at_call 20; refine (HXP.out _ hw10).mono ?_; rintro e w11 ⟨v11, rfl, k11, b11⟩; have hw11 : Below W2.heap.size W2 w11 := bel_tr hw10 b11)
          | (go_at_call 18; refine (ints_same _ _ _ _ (k10.below b11).sees k11.sees).mono ?_; rintro e w12 ⟨rfl, b12⟩; have hw12 : Below W2.heap.size W2 w12 := bel_tr hw11 b12)
          | (go_at_call 21; refine (HEE.out _ hw12).mono ?_; rintro e w13 ⟨rfl, b13⟩; have hw13 : Below W2.heap.size W2 w13 := bel_tr hw12 b13)
          | (go_at_call 22; refine (HXE.out _ hw13).mono ?_; rintro e w14 ⟨rfl, b14⟩; have hw14 : Below W2.heap.size W2 w14 := bel_tr hw13 b14)
          | (go_at_call 8; refine (awake9_any _).mono ?_; rintro e w15 ⟨rfl, b15⟩; have hw15 : Below W2.heap.size W2 w15 := bel_tr hw14 b15)
          | fail)
      have HZ : Hid (Below w.heap.size w w15) := bel_tr HB2.out.2 hw15
      clear hw4 hw5 hw6 hw7 hw8 hw9 hw10 hw11 hw12 hw13 hw14 hw15 k4 k7 k8 k10 k11 b4 b5 b6 b7 b8 b9 b10 b11 b12 b13 b14 b15
      go_wp2_with fail
      go_ret
      exact ⟨rfl, HZ.out⟩
end Go.Proofs.Ythdmclhccbjgoaa
