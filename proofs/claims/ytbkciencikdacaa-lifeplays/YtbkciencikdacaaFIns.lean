/- slices.Insert of one thing, in a row of the map's own. -/
import Derived.Test.YtbkciencikdacaaFDel
import Derived.Test.YtbkciencikdacaaKitSg
import Derived.Lib.Overlaps
import Derived.Deep.RegionHeld3
import Derived.Deep.RegionWith
import Derived.Deep.DeepCutAuto
import Derived.Deep.RegionLaw
namespace Go.Proofs.Ytbkciencikdacaa
open Go.RowKit Kit
set_option linter.unusedVariables false

theorem ins_list (xs : List Th) (i : Nat) (y : Th) (hi : i < xs.length) :
    List.take i (List.take (i + 1) xs ++ List.drop i xs ++ List.drop (i + 1 + (List.drop i xs).length) xs) ++ [y] ++ List.drop (i + [y].length) (List.take (i + 1) xs ++ List.drop i xs ++ List.drop (i + 1 + (List.drop i xs).length) xs) = xs.take i ++ [y] ++ xs.drop i := by
  have h1 : List.drop (i + 1 + (List.drop i xs).length) xs = [] := List.drop_eq_nil_of_le (by rw [List.length_drop]; omega)
  have h2 : (List.take (i + 1) xs).length = i + 1 := by rw [List.length_take]; omega
  rw [h1, List.append_nil, List.take_append_of_le_length (by omega), List.take_take, Nat.min_eq_left (by omega)]
  congr 1
  show List.drop (i + 1) _ = _
  rw [List.drop_append, h2, Nat.sub_self, List.drop_zero, List.drop_of_length_le (by omega), List.nil_append]
theorem over_no (w : World) (H g o lb cb : Nat) (y : Th) (hu : w.heap[H]? = some (.cells (thE.c y).toArray 67)) (cur : Array Value) (hg : w.heap[g]? = some (.cells cur 67)) (h0 : cur.size ≠ 0) (hne : H ≠ g) :
    (callFunc 52 #[.slice (some ⟨H, 0, none⟩) 1 1, .slice (some ⟨g, o, none⟩) lb cb]).run Try.prog w = .ok (.value (.bool false)) w := by
  rw [run_callFunc_extern Try.func52 (by kernel_rfl) (by kernel_rfl) (by kernel_rfl) (e := Extern.SlicesOverlaps.overlaps #[55, 55] #[4]) (by kernel_rfl),
    Lib.run_overlaps_apart w 55 4 67 Try.underlying55 3 Try.sizeOf67 ⟨H, 0, none⟩ ⟨g, o, none⟩ 1 1 lb cb hne 67 67 3 cur.size (by simp [World.shape?, hu]; rfl) (by simp [World.shape?, hg]) h0 (by simp [World.frozen?, hu]) (by simp [World.frozen?, hu])]
  rfl
theorem sins_nil (v : Value) (B i : Nat) (xs : List Th) (w : World) (h : RowE thE w B 67 v xs) (hi : i ≤ xs.length) :
    Calls Try.prog 40 #[v, .int .i64 (i : Int), .slice none 0 0] w fun e w' => e = .returned v ∧ w' = w := by
  obtain ⟨h1, h2⟩ := h
  rcases h2 with ⟨rfl, h2⟩ | ⟨g, cap, cur, rfl, hg, hh, h3, h4, h5, h6⟩
  · obtain rfl : i = 0 := by omega
    go_enter Try.func40, Try.ntmps40
    go_wp2
    go_ret
    exact ⟨rfl, rfl⟩
  · obtain ⟨n, hn⟩ : ∃ n, n = xs.length := ⟨_, rfl⟩
    rw [← hn] at hi h3 ⊢
    have hm : cap ≤ 9223372036854775807 := h4
    have hin : (i : Int) ≤ (n : Int) := by omega
    have hi0 : (0 : Int) ≤ (i : Int) := by omega
    have hic : i ≤ cap := by omega
    clear h1 h6 h5 hn hh
    go_enter Try.func40, Try.ntmps40
    go_wp2
    all_goals (go_ret; exact ⟨rfl, rfl⟩)
/-- At the end. -/
theorem sins_end (v : Value) (B H : Nat) (xs : List Th) (y : Th) (w : World) (h : RowE thE w B 67 v xs) (hB : B ≤ w.heap.size) (hl : xs.length ≤ 1000) (hu : SeesE thE w (.slice (some ⟨H, 0, none⟩) 1 1) [y]) :
    Calls Try.prog 40 #[v, .int .i64 (xs.length : Int), .slice (some ⟨H, 0, none⟩) 1 1] w fun e w' => ∃ v', e = .returned v' ∧ RowE thE w' B 67 v' (xs ++ [y]) ∧ w.grownBy w' v.ownBlock ∧ ∀ k, v'.ownBlock = some k → v.ownBlock = some k ∨ w.heap.size ≤ k := by
  have HR : Hid (RowE thE w B 67 v xs) := h
  have HU : Hid (SeesE thE w (.slice (some ⟨H, 0, none⟩) 1 1) [y]) := hu
  have HL : Hid (xs.length + [y].length ≤ maxLen ∧ (xs.length + [y].length) * 24 ≤ 140737488355328) := ⟨by simp; unfold maxLen; omega, by simp; omega⟩
  obtain ⟨h1, h2⟩ := h
  rcases h2 with ⟨rfl, h2⟩ | ⟨g, cap, cur, rfl, hg, hh, h3, h4, h5, h6⟩
  · rw [h2]
    clear h1 hu
    go_enter Try.func40, Try.ntmps40
    go_wp2_with (at_builtin; refine wpList_appF (E := thE) Try.underlying55 infoTh rfl rfl _ _ rfl B _ xs rfl HR.out _ [y] rfl HU.out HL.out.1 HL.out.2 hB ?_; intro v1 w1 k1 k2 k3)
    go_ret
    exact ⟨v1, rfl, k1, k2, k3⟩
  · obtain ⟨n, hn⟩ : ∃ n, n = xs.length := ⟨_, rfl⟩
    rw [← hn] at h3 HR ⊢
    have hm : cap ≤ 9223372036854775807 := h4
    have hin : (n : Int) ≤ (n : Int) := by omega
    have hi0 : (0 : Int) ≤ (n : Int) := by omega
    have hic : n ≤ cap := by omega
    clear h1 h6 h5 hn hh hu
    go_enter Try.func40, Try.ntmps40
    go_wp2_with (at_builtin; refine wpList_appF (E := thE) Try.underlying55 infoTh rfl rfl _ _ rfl B _ xs rfl HR.out _ [y] rfl HU.out HL.out.1 HL.out.2 hB ?_; intro v1 w1 k1 k2 k3)
    all_goals (
      go_ret
      exact ⟨v1, rfl, k1, k2, k3⟩)
set_option maxRecDepth 4000 in
set_option maxHeartbeats 4000000 in
/-- In the midst, where there is room. -/
theorem sins_room (B g n cap i H : Nat) (xs : List Th) (y : Th) (w : World) (h : RowE thE w B 67 (.slice (some ⟨g, 0, none⟩) n cap) xs) (hi : i < n) (hroom : n + 1 ≤ cap) (hu : w.heap[H]? = some (.cells (thE.c y).toArray 67)) (hne : H ≠ g) (hs : SeesE thE w (.slice (some ⟨H, 0, none⟩) 1 1) [y]) :
    Calls Try.prog 40 #[.slice (some ⟨g, 0, none⟩) n cap, .int .i64 (i : Int), .slice (some ⟨H, 0, none⟩) 1 1] w fun e w' => ∃ v', e = .returned v' ∧ v'.ownBlock = some g ∧ RowE thE w' B 67 v' (xs.take i ++ [y] ++ xs.drop i) ∧ w.grownBy w' (some g) := by
  obtain ⟨u1, u2, u3, u4, u5, cur, u6, u7, u8⟩ := rowE_un h
  have hm : cap ≤ 9223372036854775807 := u4
  have HOV : Hid (∀ lb cb, (callFunc 52 #[.slice (some ⟨H, 0, none⟩) 1 1, .slice (some ⟨g, (i + 1) * 3, none⟩) lb cb]).run Try.prog w = .ok (.value (.bool false)) w) := fun lb cb => over_no w H g _ lb cb y hu cur u6 (by rw [u7]; show cap * 3 ≠ 0; omega) hne
  have HR : Hid (RowE thE w.drew B 67 (.slice (some ⟨g, 0, none⟩) n cap) xs) := h.below (bel_drew w)
  have HS : Hid (SeesE thE w.drew (.slice (some ⟨g, i * 3, none⟩) (n - i) (cap - i)) (xs.drop i)) := (h.below (bel_drew w)).from i (by omega)
  have HL : Hid ((xs.drop i).length = n - i) := by show _ = _; rw [List.length_drop]; omega
  have HU : Hid (SeesE thE w (.slice (some ⟨H, 0, none⟩) 1 1) [y]) := hs
  have HI : Hid (i < xs.length) := by show _ < _; omega
  have HW : Hid (w.heap[H]? = some (.cells (thE.c y).toArray 67)) := hu
  have hi1 : (i : Int) ≤ (n : Int) := by omega
  have hi2 : ¬ ((i : Int) = (n : Int)) := by omega
  have hi0 : (0 : Int) ≤ (i : Int) := by omega
  have hi3 : (0 : Int) ≤ (i : Int) + 1 := by omega
  have hi5 : (i : Int) ≤ (n : Int) + 1 := by omega
  have hi4 : (i : Int) + 1 ≤ (n : Int) + 1 := by omega
  have hcap : ¬ ((cap : Int) < (n : Int) + 1) := by omega
  have hw1 : IntKind.i64.wrap ((i : Int) + 1) = (i : Int) + 1 := by rw [IntKind.wrap_i64]; omega
  have hw2 : IntKind.i64.wrap ((n : Int) + 1) = (n : Int) + 1 := by rw [IntKind.wrap_i64]; omega
  have htn : ((i : Int) + 1).toNat = i + 1 := by omega
  have htn2 : ((n : Int) + 1).toNat = n + 1 := by omega
  have hc1 : ¬ (cap = i) := by omega
  have hc2 : ¬ (cap = i + 1) := by omega
  have hn0 : (0 : Int) ≤ (n : Int) + 1 := by omega
  have hn1 : (n : Int) + 1 ≤ (cap : Int) := by omega
  clear h u6 u7 u8 u4 hu hs u2
  have hov := HOV.out
  go_enter Try.func40, Try.ntmps40
  go_wp2_with (simp only [hov])
  clear hov
  go_region_law (refine step_copyE (E := thE) Try.underlying55 sizeTh (by rfl) (.tmp 73) (.tmp 76) (by rfl) HR.out (i + 1) (n - i) (cap - (i + 1)) (by omega) (by omega) (by simp [Act.eval, Act.put]; try rfl) (some ⟨g, i * 3, none⟩) (n + 1 - i) (cap - i) (by simp [Act.eval, Act.put]) (xs.drop i) (by rw [HL.out]; exact HS.out) (by rw [HL.out]; exact Nat.min_eq_right (by omega)) (n + 1) (by rw [HL.out]; omega) ?_; intro w1 k1 k2)
  have HK : Hid (RowE thE w1 B 67 (.slice (some ⟨g, 0, none⟩) (n + 1) cap) _ ∧ w.grownBy w1 (some g) ∧ SeesE thE w1 (.slice (some ⟨H, 0, none⟩) 1 1) [y]) := ⟨k1, ⟨k2.os, k2.tape, k2.output, k2.size, k2.block⟩, seesE_at thE (by rw [k2.block H (blk_lt HW.out) (by simpa using hne)]; exact HW.out)⟩
  clear k1 k2
  obtain ⟨w2, hcp, k1, k2⟩ := run_copyW (E := thE) Try.underlying55 sizeTh HK.out.1 i (n + 1 - i) (cap - i) (by omega) (by omega) (some ⟨H, 0, none⟩) 1 1 [y] HK.out.2.2 (Nat.min_eq_left (by omega)) (n + 1) (by have : ([y] : List Th).length = 1 := rfl; omega)
  have hcp : ∀ ty, (Builtin.copy_ #[55, 55] ty #[.slice (some ⟨g, i * 3, none⟩) (n + 1 - i) (cap - i), .slice (some ⟨H, 0, none⟩) 1 1]).run Try.prog w1 = .ok (goInt 1) w2 := hcp
  have HZ : Hid (RowE thE w2 B 67 (.slice (some ⟨g, 0, none⟩) (n + 1) cap) _ ∧ w1.grownBy w2 (some g)) := ⟨k1, k2⟩
  clear k1 k2
  go_wp2_with fail
  go_ret
  obtain ⟨k1, k2⟩ := HZ.out
  rw [ins_list xs i y HI.out] at k1
  have h2 := HK.out.2.1
  exact ⟨_, rfl, rfl, k1, ⟨k2.os.trans h2.os, k2.tape.trans h2.tape, k2.output.trans h2.output, Nat.le_trans h2.size k2.size, fun k hk hne => (k2.block k (Nat.lt_of_lt_of_le hk h2.size) hne).trans (h2.block k hk hne)⟩⟩
theorem grow_list (xs : List Th) (i k : Nat) (ys zs : List Th) (z : Th) (hi : i ≤ xs.length) (hk : k = ys.length + zs.length) :
    List.take (i + ys.length) (List.take i (List.take i xs ++ List.replicate k z) ++ ys ++ List.drop (i + ys.length) (List.take i xs ++ List.replicate k z)) ++ zs ++ List.drop (i + ys.length + zs.length) (List.take i (List.take i xs ++ List.replicate k z) ++ ys ++ List.drop (i + ys.length) (List.take i xs ++ List.replicate k z)) = xs.take i ++ ys ++ zs := by
  have h1 : (List.take i xs).length = i := by rw [List.length_take]; omega
  have h2 : List.take i (List.take i xs ++ List.replicate k z) = List.take i xs := by rw [List.take_append_of_le_length (by omega), List.take_take, Nat.min_self]
  have h3 : (List.take i xs ++ List.replicate k z).length = i + k := by rw [List.length_append, h1, List.length_replicate]
  rw [h2]
  have h4 : (List.take i xs ++ ys).length = i + ys.length := by rw [List.length_append, h1]
  rw [List.take_append_of_le_length (by omega), List.take_of_length_le (by omega)]
  rw [List.drop_append, List.drop_of_length_le (by omega), List.nil_append, h4, List.drop_drop, List.drop_of_length_le (by omega), List.append_nil]
set_option maxRecDepth 4000 in
set_option maxHeartbeats 4000000 in
/-- In the midst, where there is no room. -/
theorem sins_grow (B g n cap i H : Nat) (xs : List Th) (y : Th) (w : World) (h : RowE thE w B 67 (.slice (some ⟨g, 0, none⟩) n cap) xs) (hB : B ≤ w.heap.size) (hi : i < n) (hl : n ≤ 1000) (hroom : cap < n + 1) (hu : w.heap[H]? = some (.cells (thE.c y).toArray 67)) :
    Calls Try.prog 40 #[.slice (some ⟨g, 0, none⟩) n cap, .int .i64 (i : Int), .slice (some ⟨H, 0, none⟩) 1 1] w fun e w' => ∃ v', e = .returned v' ∧ RowE thE w' B 67 v' (xs.take i ++ [y] ++ xs.drop i) ∧ Below w.heap.size w w' ∧ ∀ k, v'.ownBlock = some k → w.heap.size ≤ k := by
  obtain ⟨u1, u2, u3, u4, u5, _⟩ := rowE_un h
  have hm : cap ≤ 9223372036854775807 := u4
  have HR : Hid (RowE thE w B 67 (.slice (some ⟨g, 0, none⟩) i cap) (xs.take i)) := h.take i (by omega)
  have HS : Hid (SeesE thE w (.slice (some ⟨g, i * 3, none⟩) (n - i) (cap - i)) (xs.drop i)) := h.from i (by omega)
  have HL : Hid ((xs.drop i).length = n - i) := by show _ = _; rw [List.length_drop]; omega
  have HI : Hid (i < xs.length) := by show _ < _; omega
  have HW : Hid (w.heap[H]? = some (.cells (thE.c y).toArray 67)) := hu
  have hi1 : (i : Int) ≤ (n : Int) := by omega
  have hi2 : ¬ ((i : Int) = (n : Int)) := by omega
  have hi0 : (0 : Int) ≤ (i : Int) := by omega
  have hi3 : (0 : Int) ≤ (i : Int) + 1 := by omega
  have hi5 : (i : Int) ≤ (n : Int) + 1 := by omega
  have hi4 : (i : Int) + 1 ≤ (n : Int) + 1 := by omega
  have hic : (i : Int) ≤ (cap : Int) := by omega
  have hcap : (cap : Int) < (n : Int) + 1 := by omega
  have hw1 : IntKind.i64.wrap ((i : Int) + 1) = (i : Int) + 1 := by rw [IntKind.wrap_i64]; omega
  have hw2 : IntKind.i64.wrap ((n : Int) + 1) = (n : Int) + 1 := by rw [IntKind.wrap_i64]; omega
  have hw3 : IntKind.i64.wrap ((n : Int) + 1 - (i : Int)) = (n : Int) + 1 - (i : Int) := by rw [IntKind.wrap_i64]; omega
  have htn : ((i : Int) + 1).toNat = i + 1 := by omega
  have hc1 : ¬ (cap = i) := by omega
  have HZ0 : Hid ((n : Int) + 1 - (i : Int) = ((n + 1 - i : Nat) : Int)) := by show _ = _; omega
  clear h u4 hu u2
  go_enter Try.func40, Try.ntmps40
  go_upto_region 10 with (at_builtin; refine wpList_zerosE (E := thE) Try.underlying55 Try.underlying3 infoTh ⟨0, 0, 0⟩ rfl rfl _ _ rfl HR.out rfl (n + 1 - i) _ HZ0.out rfl (n + 1) (by omega) (by omega) (by omega) (by omega) (by unfold maxLen; omega) hB ?_; intro c1 w1 k1 k2)
  have hcn : n + 1 ≤ c1 := (rowE_un k1).2.2.1
  have hcm : c1 ≤ 9223372036854775807 := (rowE_un k1).2.2.2.1
  have hd1 : ¬ (c1 = i) := by omega
  have hd2 : ¬ (c1 = i + 1) := by omega
  have HB1 : Hid (Below w.heap.size w w1) := k2
  obtain ⟨w2, hcp, r1, r2⟩ := run_copyW (E := thE) Try.underlying55 sizeTh k1 i (n + 1 - i) (c1 - i) (by omega) (by omega) (some ⟨H, 0, none⟩) 1 1 [y] (seesE_at thE (blk_below HB1.out HW.out)) (Nat.min_eq_left (by omega)) (n + 1) (by have : ([y] : List Th).length = 1 := rfl; omega)
  have hcp : ∀ ty, (Builtin.copy_ #[55, 55] ty #[.slice (some ⟨w.heap.size, i * 3, none⟩) (n + 1 - i) (c1 - i), .slice (some ⟨H, 0, none⟩) 1 1]).run Try.prog w1 = .ok (goInt 1) w2 := hcp
  have HB2 : Hid (Below w.heap.size w w2) := ⟨r2.os.trans HB1.out.os, r2.tape.trans HB1.out.tape, r2.output.trans HB1.out.output, Nat.le_trans HB1.out.size r2.size, fun k hk => (r2.block k (Nat.lt_of_lt_of_le hk HB1.out.size) (by simp; omega)).trans (HB1.out.block k hk)⟩
  have HR2 : Hid (RowE thE w2.drew B 67 (.slice (some ⟨w.heap.size, 0, none⟩) (n + 1) c1) _) := r1.below (bel_drew w2)
  have HS2 : Hid (SeesE thE w2.drew (.slice (some ⟨g, i * 3, none⟩) (n - i) (cap - i)) (xs.drop i)) := (HS.out.below HB2.out).below (bel_drew w2)
  clear r1 r2 k1 k2
  go_upto_region 11 with fail
  clear hcp
  go_region_law (refine step_copyE (E := thE) Try.underlying55 sizeTh (by rfl) (.tmp 50) (.tmp 53) (by rfl) HR2.out (i + 1) (n - i) (c1 - (i + 1)) (by omega) (by omega) (by simp [Act.eval, Act.put]; try rfl) (some ⟨g, i * 3, none⟩) (n - i) (cap - i) (by simp [Act.eval, Act.put]) (xs.drop i) (by rw [HL.out]; exact HS2.out) (by rw [HL.out]; exact Nat.min_self _) (n + 1) (by rw [HL.out]; omega) ?_; intro w3 k1 k2)
  have HB3 : Hid (Below w.heap.size w w3) := ⟨k2.os.trans HB2.out.os, k2.tape.trans HB2.out.tape, k2.output.trans HB2.out.output, Nat.le_trans HB2.out.size k2.size, fun k hk => (k2.block k (Nat.lt_of_lt_of_le hk HB2.out.size) (by simp; omega)).trans (HB2.out.block k hk)⟩
  have HK : Hid (RowE thE w3 B 67 (.slice (some ⟨w.heap.size, 0, none⟩) (n + 1) c1) _) := k1
  clear k1 k2
  go_wp2_with fail
  go_ret
  have k1 := HK.out
  have hi := HI.out
  rw [show i + 1 = i + [y].length from rfl, grow_list xs i (n + 1 - i) [y] (xs.drop i) ⟨0, 0, 0⟩ (by omega) (by rw [HL.out]; show _ = 1 + _; omega)] at k1
  exact ⟨_, rfl, k1, HB3.out, fun k hk => by simp [Value.ownBlock] at hk; omega⟩
/-- One piece set in. -/
theorem sins_any (v : Value) (B i H : Nat) (xs : List Th) (y : Th) (w : World) (h : RowE thE w B 67 v xs) (hB : B ≤ w.heap.size) (hi : i ≤ xs.length) (hl : xs.length ≤ 1000) (hu : w.heap[H]? = some (.cells (thE.c y).toArray 67)) (hne : v.ownBlock ≠ some H) :
    Calls Try.prog 40 #[v, .int .i64 (i : Int), .slice (some ⟨H, 0, none⟩) 1 1] w fun e w' => ∃ v', e = .returned v' ∧ RowE thE w' B 67 v' (xs.take i ++ [y] ++ xs.drop i) ∧ w.grownBy w' v.ownBlock ∧ ∀ k, v'.ownBlock = some k → v.ownBlock = some k ∨ w.heap.size ≤ k := by
  by_cases hend : i = xs.length
  · subst hend
    have := sins_end v B H xs y w h hB hl (seesE_at thE hu)
    rw [List.take_length, List.drop_length, List.append_nil]
    exact this
  · obtain ⟨h1, h2⟩ := id h
    rcases h2 with ⟨rfl, h2⟩ | ⟨g, cap, cur, rfl, hg, hh, h3, _⟩
    · exact absurd h2 (by omega)
    · by_cases hroom : xs.length + 1 ≤ cap
      · refine (sins_room B g xs.length cap i H xs y w h (by omega) hroom hu (fun e => hne (by rw [e]; rfl)) (seesE_at thE hu)).mono ?_
        rintro e w' ⟨v', rfl, k0, k1, k2⟩
        exact ⟨v', rfl, k1, k2, fun k hk => .inl (by rw [k0] at hk; exact hk)⟩
      · refine (sins_grow B g xs.length cap i H xs y w h hB (by omega) hl (by omega) hu).mono ?_
        rintro e w' ⟨v', rfl, k1, k2, k3⟩
        exact ⟨v', rfl, k1, ⟨k2.os, k2.tape, k2.output, k2.size, fun k hk _ => k2.block k hk⟩, fun k hk => .inr (k3 k hk)⟩
end Go.Proofs.Ytbkciencikdacaa
