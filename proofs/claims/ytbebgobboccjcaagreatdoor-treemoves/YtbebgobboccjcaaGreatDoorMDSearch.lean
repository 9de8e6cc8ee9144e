/- Where a name stands among a directory's. -/
import Derived.Test.YtbebgobboccjcaaGreatDoorG2
import Derived.Test.YtbebgobboccjcaaGreatDoorMShelfC
import Derived.Shelf.Small.Strs
import Derived.Lib.Bytealg
import Derived.Deep.LoopGhost
namespace Go.Proofs.YtbebgobboccjcaaGreatDoor
open Go.RowKit Kit
set_option linter.unusedVariables false

/-- What comparing says. -/
def cmpB (a b : ByteArray) : Int := Lib.compareBytes a.data.toList b.data.toList
theorem cmpL_less : ∀ (a b : List UInt8), (Lib.compareBytes a b < 0 ↔ Op.bytesLess a b = true) ∧ (Lib.compareBytes a b = 0 ↔ a = b)
  | [], [] => by simp [Lib.compareBytes, Op.bytesLess]
  | [], _ :: _ => by simp [Lib.compareBytes, Op.bytesLess]
  | _ :: _, [] => by simp [Lib.compareBytes, Op.bytesLess]
  | a :: xs, b :: ys => by
    have ih := cmpL_less xs ys
    unfold Lib.compareBytes Op.bytesLess
    by_cases h1 : a < b
    · simp [h1]
      intro e; subst e; exact absurd h1 (UInt8.lt_irrefl _)
    · by_cases h2 : b < a
      · have e : a ≠ b := fun e => by subst e; exact absurd h2 (UInt8.lt_irrefl _)
        simp [h1, h2, e]
      · have e : a = b := UInt8.le_antisymm (UInt8.not_lt.1 h2) (UInt8.not_lt.1 h1)
        subst e
        simp [UInt8.lt_irrefl, ih.1, ih.2]
theorem ba_toList (a : ByteArray) : a.data.toList = a.toList := by
  first | exact (ByteArray.toList_eq a).symm | simp
theorem cmp_less (a b : ByteArray) : cmpB a b < 0 ↔ less a b := by unfold cmpB less; rw [ba_toList, ba_toList]; exact (cmpL_less _ _).1
theorem cmp_same (a b : ByteArray) : cmpB a b = 0 ↔ a = b := by
  unfold cmpB
  rw [(cmpL_less _ _).2]
  constructor
  · intro h
    have := Array.toList_inj.1 h
    cases a; cases b; simp at this; rw [this]
  · rintro rfl; rfl
set_option maxRecDepth 4000 in
set_option maxHeartbeats 4000000 in
theorem dcmp_any (a b : ByteArray) (i : Int) (w : World) : Calls Tryz.prog 139 #[.agg #[.string a, .int .i64 i], .string b] w fun e w' => e = .returned (.int .i64 (cmpB a b)) ∧ w' = w.alloc (.cells #[.string a, .int .i64 i] 97) := by
  have HX : ∀ w, Hid (Calls Tryz.prog 140 #[.string a, .string b] w fun e w' => e = .returned (.int .i64 (cmpB a b)) ∧ w' = w) := fun w => Any.strings_Compare Tryz.lays106 a b w
  go_enter Tryz.func139, Tryz.ntmps139
  go_wp2_with (go_at_call 140; refine (HX _).out.mono ?_; rintro e w' ⟨rfl, rfl⟩)
  go_ret
  exact ⟨rfl, rfl⟩
/-- How many names stand ahead of one. -/
def lowB (l : List ByteArray) (s : ByteArray) : Nat := l.countP fun q => decide (cmpB q s < 0)
theorem low_split : ∀ (l : List ByteArray) (s : ByteArray), Rising l → (∀ j (hj : j < l.length), j < lowB l s → less l[j] s) ∧ (∀ j (hj : j < l.length), lowB l s ≤ j → ¬ less l[j] s)
  | [], s, _ => ⟨fun j hj => by simp at hj, fun j hj => by simp at hj⟩
  | a :: r, s, h => by
    obtain ⟨h1, h2⟩ := List.pairwise_cons.1 h
    have ih := low_split r s h2
    unfold lowB at *
    rw [List.countP_cons]
    by_cases c : cmpB a s < 0
    · simp only [c, decide_true, if_true]
      refine ⟨fun j hj hl => ?_, fun j hj hl => ?_⟩
      · cases j with
        | zero => exact (cmp_less a s).1 c
        | succ j => exact ih.1 j (by simpa using hj) (by omega)
      · cases j with
        | zero => omega
        | succ j => exact ih.2 j (by simpa using hj) (by omega)
    · have hz : r.countP (fun q => decide (cmpB q s < 0)) = 0 := by
        rw [List.countP_eq_zero]
        intro q hq
        simp only [decide_eq_true_eq]
        intro hlt
        exact c ((cmp_less a s).2 (less_trans (h1 q hq) ((cmp_less q s).1 hlt)))
      simp only [c, decide_false, hz]
      refine ⟨fun j hj hl => by simp at hl, fun j hj _ hlt => ?_⟩
      cases j with
      | zero => exact c ((cmp_less a s).2 hlt)
      | succ j => exact ih.2 j (by simpa using hj) (by omega) hlt
theorem low_le (l : List ByteArray) (s : ByteArray) : lowB l s ≤ l.length := List.countP_le_length
theorem low_of {l : List ByteArray} {s : ByteArray} (h : Rising l) {k : Nat} (hk : k ≤ l.length) (h1 : ∀ j (hj : j < l.length), j < k → less l[j] s) (h2 : ∀ j (hj : j < l.length), k ≤ j → ¬ less l[j] s) : lowB l s = k := by
  have hs := low_split l s h
  have hl := low_le l s
  by_cases c : lowB l s < k
  · exact absurd (h1 (lowB l s) (by omega) c) (hs.2 _ (by omega) (Nat.le_refl _))
  · by_cases d : k < lowB l s
    · exact absurd (hs.1 k (by omega) d) (h2 k (by omega) (Nat.le_refl _))
    · omega
/-- A name is there just if it stands at that place. -/
theorem low_mem {l : List ByteArray} {s : ByteArray} (h : Rising l) : s ∈ l ↔ ∃ hl : lowB l s < l.length, l[lowB l s] = s := by
  have hs := low_split l s h
  constructor
  · intro hm
    obtain ⟨j, hj, rfl⟩ := List.mem_iff_getElem.1 hm
    have e : lowB l l[j] = j := low_of h (by omega) (fun i hi hij => List.pairwise_iff_getElem.1 h i j hi hj hij) (fun i hi hij hlt => by
      by_cases e : i = j
      · subst e; exact less_irrefl _ hlt
      · exact less_irrefl _ (less_trans hlt (List.pairwise_iff_getElem.1 h j i hj hi (by omega))))
    refine ⟨by omega, ?_⟩
    simp only [e]
  · rintro ⟨h1, h2⟩
    rw [← h2]
    exact List.getElem_mem h1
def hasB (l : List ByteArray) (s : ByteArray) : Bool := l.any fun q => decide (q = s)
theorem has_iff {l : List ByteArray} {s : ByteArray} : hasB l s = true ↔ s ∈ l := by
  unfold hasB
  rw [List.any_eq_true]
  constructor
  · rintro ⟨q, hq, e⟩
    rw [← of_decide_eq_true e]; exact hq
  · intro h
    exact ⟨s, h, decide_eq_true rfl⟩
set_option maxRecDepth 4000 in
set_option maxHeartbeats 8000000 in
/-- slices.BinarySearchFunc over a directory's names. -/
theorem dbin_any (v : Value) (ps : List (ByteArray × Int)) (s : ByteArray) (w : World) (h : SeesS w v ps) (hr : Rising (ps.map Prod.fst)) (hsm : ps.length ≤ 1000000) :
    Calls Tryz.prog 138 #[v, .string s, .func (.func 139) #[] #[]] w fun e w' => e = .returned (.tuple #[.int .i64 (lowB (ps.map Prod.fst) s : Nat), .bool (hasB (ps.map Prod.fst) s)]) ∧ Below w.heap.size w w' := by
  obtain ⟨ao, cap, rfl, h1, h2, h3, h4⟩ := h
  have lm : (ps.length : Int) ≤ 1000000 := by omega
  have HC : Hid (∀ a i w, Calls Tryz.prog 139 #[.agg #[.string a, .int .i64 i], .string s] w fun e w' => e = .returned (.int .i64 (cmpB a s)) ∧ w' = w.alloc (.cells #[.string a, .int .i64 i] 97)) := fun a i w => dcmp_any a s i w
  have H4 : Hid (0 < ps.length → _) := h4
  have HR : Hid (Rising (ps.map Prod.fst)) := hr
  clear h1 h2 h3 h4 hr hsm
  go_enter Tryz.func138, Tryz.ntmps138
  go_wp2
  go_loopg [9, 10] ps.length (fun kx s9 s10 wr => ∃ lo hi : Nat, s9 = .int .i64 lo ∧ s10 = .int .i64 hi ∧ lo ≤ hi ∧ hi ≤ ps.length ∧ hi - lo ≤ kx ∧ Hid (Below w.heap.size w wr) ∧
    Hid ((∀ j (hj : j < ps.length), j < lo → less ps[j].1 s) ∧ (∀ j (hj : j < ps.length), hi ≤ j → ¬ less ps[j].1 s)))
  case atStart => exact ⟨0, ps.length, rfl, rfl, Nat.zero_le _, Nat.le_refl _, by omega, Below.refl _ _, ⟨fun j hj h => by omega, fun j hj h => by omega⟩⟩
  case round =>
    obtain ⟨lo, hi, rfl, rfl, hlh, hin, hg, HB, HI⟩ := hrel
    by_cases hlt : lo < hi
    · obtain ⟨b, off, hao, hb, hc⟩ := H4.out (by omega)
      subst hao
      obtain ⟨m, hm⟩ : ∃ m : Nat, m = (lo + hi) / 2 := ⟨_, rfl⟩
      have hm2 : ((lo : Int) + (hi : Int)) / 2 = (m : Int) := by omega
      have ml : m < ps.length := by omega
      have mi : (m : Int) < (ps.length : Int) := by omega
      have c := at2_of hc ml
      have c0 := (HB.out.cell hb).trans c.1
      have c1 := (HB.out.cell hb).trans c.2
      obtain ⟨x, hx⟩ : ∃ x, ps[m].1 = x := ⟨_, rfl⟩
      rw [hx] at c0
      have HX : Hid (ps[m].1 = x) := hx
      have HM : Hid (m = (lo + hi) / 2) := hm
      clear hc c hx hm
      by_cases hyx : cmpB x s < 0
      · go_wp2_with (go_at_call 139; refine (HC.out _ _ _).mono ?_; rintro e w' ⟨rfl, rfl⟩)
        go_roundg (hi - (m + 1))
        case measure => have := HM.out; omega
        case rel =>
          have := HM.out
          refine ⟨m + 1, hi, by simp, rfl, by omega, hin, Nat.le_refl _, HB.out.alloc HB.out.size _, ⟨fun j hj hl => ?_, HI.out.2⟩⟩
          by_cases e : j = m
          · subst e; rw [HX.out]; exact (cmp_less x s).1 hyx
          · have h1 := List.pairwise_iff_getElem.1 HR.out j m (by simpa using hj) (by simpa using ml) (by omega)
            simp only [List.getElem_map] at h1
            rw [HX.out] at h1
            exact less_trans h1 ((cmp_less x s).1 hyx)
      · have HY : Hid (¬ cmpB x s < 0) := hyx
        go_wp2_with (go_at_call 139; refine (HC.out _ _ _).mono ?_; rintro e w' ⟨rfl, rfl⟩)
        go_roundg (m - lo)
        case measure => have := HM.out; omega
        case rel =>
          have := HM.out
          refine ⟨lo, m, rfl, rfl, by omega, by omega, Nat.le_refl _, HB.out.alloc HB.out.size _, ⟨HI.out.1, fun j hj hl => ?_⟩⟩
          by_cases e : j = m
          · subst e; rw [HX.out]; exact fun h => by have h1 := (cmp_less x s).2 h; have h2 : 0 ≤ cmpB x s := HY.out; omega
          · intro hlt2
            have h1 := List.pairwise_iff_getElem.1 HR.out m j (by simpa using ml) (by simpa using hj) (by omega)
            simp only [List.getElem_map] at h1
            rw [HX.out] at h1
            have h3 := (cmp_less x s).2 (less_trans h1 hlt2); have h2 : 0 ≤ cmpB x s := HY.out; omega
    · obtain rfl : lo = hi := by omega
      have HL : Hid (lowB (ps.map Prod.fst) s = lo) := low_of HR.out (by simpa using hin) (fun j hj hl => by simp only [List.getElem_map]; exact HI.out.1 j (by simpa using hj) hl) (fun j hj hl => by simp only [List.getElem_map]; exact HI.out.2 j (by simpa using hj) hl)
      have HM := low_mem (s := s) HR.out
      rw [HL.out] at HM
      by_cases hn : lo < ps.length
      · obtain ⟨b, off, hao, hb, hc⟩ := H4.out (by omega)
        subst hao
        have mi : (lo : Int) < (ps.length : Int) := by omega
        have c := at2_of hc hn
        have c0 := (HB.out.cell hb).trans c.1
        have c1 := (HB.out.cell hb).trans c.2
        obtain ⟨x, hx⟩ : ∃ x, ps[lo].1 = x := ⟨_, rfl⟩
        rw [hx] at c0
        have HB2 : Hid (hasB (ps.map Prod.fst) s = decide (cmpB x s = 0)) := by
          show _ = _
          rw [Bool.eq_iff_iff, has_iff, HM, decide_eq_true_iff, cmp_same, ← hx]
          constructor
          · rintro ⟨_, h⟩; simpa using h
          · intro h; exact ⟨by simpa using hn, by simpa using h⟩
        clear hc c hx HM
        by_cases hyx : cmpB x s = 0
        · rw [hyx] at HB2
          go_wp2_with (go_at_call 139; refine (HC.out _ _ _).mono ?_; rintro e w' ⟨rfl, rfl⟩)
          go_ret2
          exact ⟨by rw [HL.out, HB2.out]; rfl, HB.out.alloc HB.out.size _⟩
        · have hye : (cmpB x s == 0) = false := beq_eq_false_iff_ne.2 hyx
          go_wp2_with (go_at_call 139; refine (HC.out _ _ _).mono ?_; rintro e w' ⟨rfl, rfl⟩)
          go_ret2
          exact ⟨by rw [HL.out, HB2.out, decide_eq_false hyx]; rfl, HB.out.alloc HB.out.size _⟩
      · have HF : Hid (hasB (ps.map Prod.fst) s = false) := by
          show _ = _
          rw [Bool.eq_false_iff]
          intro h
          obtain ⟨h1, _⟩ := HM.1 (has_iff.1 h)
          simp at h1
          omega
        clear HM
        go_wp2
        go_ret2
        exact ⟨by rw [HL.out, HF.out]; rfl, HB.out⟩
set_option maxRecDepth 4000 in
set_option maxHeartbeats 4000000 in
theorem dsearch_any (f : DN) (s : ByteArray) (w : World) (h : f.is w) (hr : Rising f.n.names) (hl : f.n.names.length = f.n.inos.length) (hsm : f.n.names.length ≤ 1000000) :
    Calls Tryz.prog 116 #[f.val, .string s] w fun e w' => e = .returned (.tuple #[.int .i64 (lowB f.n.names s : Nat), .bool (hasB f.n.names s)]) ∧ Below w.heap.size w w' := by
  have e1 : (pairsB f.n).map Prod.fst = f.n.names := List.map_fst_zip (by omega)
  have HX : Hid (∀ w, f.is w → Calls Tryz.prog 138 #[f.s, .string s, .func (.func 139) #[] #[]] w fun e w' => e = .returned (.tuple #[.int .i64 (lowB f.n.names s : Nat), .bool (hasB f.n.names s)]) ∧ Below w.heap.size w w') := fun w h => by
    have := dbin_any f.s (pairsB f.n) s w h.2 (by rw [e1]; exact hr) (by unfold pairsB; rw [List.length_zip]; omega)
    rw [e1] at this
    exact this
  have H1 : Hid (f.is w) := h
  clear h hr hl e1 hsm
  unfold DN.val
  go_enter Tryz.func116, Tryz.ntmps116
  go_wp2_with fail
  go_at_call 138
  refine (HX.out _ (H1.out.below ((Below.refl _ _).alloc (Nat.le_refl _) _))).mono ?_
  rintro e w' ⟨rfl, hb⟩
  have HB : Hid (Below w.heap.size w w') := bel2v ((Below.refl _ _).alloc (Nat.le_refl _) _) hb
  clear hb
  go_wp2
  go_ret2
  exact ⟨rfl, HB.out⟩
set_option maxRecDepth 4000 in
set_option maxHeartbeats 4000000 in
theorem dleads_any (f : DN) (s : ByteArray) (w : World) (h : f.is w) (hr : Rising f.n.names) (hl : f.n.names.length = f.n.inos.length) (hsm : f.n.names.length ≤ 1000000) :
    Calls Tryz.prog 78 #[f.val, .string s] w fun e w' => e = .returned (.tuple #[.int .i64 (if hasB f.n.names s then f.n.inos.getD (lowB f.n.names s) 0 else 0), .bool (hasB f.n.names s)]) ∧ Below w.heap.size w w' := by
  have HX : Hid (∀ w, f.is w → _) := fun w h => dsearch_any f s w h hr hl hsm
  have HM := low_mem (s := s) hr
  obtain ⟨ao, cap, hs, h1, h2, h3, h4⟩ := h.2
  have hpl : (pairsB f.n).length = f.n.names.length := by unfold pairsB; rw [List.length_zip]; omega
  have H1 : Hid (f.is w) := h
  cases hh : hasB f.n.names s with
  | false =>
    rw [hh] at HX
    clear h HM hs h1 h2 h3 h4 hpl hr hl hh hsm
    unfold DN.val at *
    go_enter Tryz.func78, Tryz.ntmps78
    go_wp2_with fail
    go_at_call 116
    refine (HX.out _ (H1.out.below ((Below.refl _ _).alloc (Nat.le_refl _) _))).mono ?_
    rintro e w' ⟨rfl, hb⟩
    have HB : Hid (Below w.heap.size w w') := bel2v ((Below.refl _ _).alloc (Nat.le_refl _) _) hb
    clear hb
    go_wp2
    go_ret2
    exact ⟨rfl, HB.out⟩
  | true =>
    obtain ⟨hlt, _⟩ := HM.1 (has_iff.1 hh)
    rw [hh] at HX
    obtain ⟨k, hk⟩ : ∃ k, lowB f.n.names s = k := ⟨_, rfl⟩
    rw [hk] at HX hlt ⊢
    obtain ⟨b, off, hao, hb, hc⟩ := h4 (by omega)
    subst hao
    have c1 := (at2_of hc (k := k) (by omega)).2
    have e2 : ((pairsB f.n)[k]'(by omega)).2 = f.n.inos.getD k 0 := by
      have : k < f.n.inos.length := by omega
      simp [pairsB, List.getD, this]
    rw [e2] at c1
    obtain ⟨x, hx⟩ : ∃ x, f.n.inos.getD k 0 = x := ⟨_, rfl⟩
    rw [hx] at c1 ⊢
    have HC1 : Hid (w.cell? ⟨b, off + k * 2 + 1, none⟩ = some (.int .i64 x) ∧ b < w.heap.size) := ⟨c1, hb⟩
    rw [hpl] at hs
    have ki : (k : Int) < (f.n.names.length : Int) := by omega
    clear h HM h1 h2 h3 h4 hpl hr hl hh hsm hk hc e2 hx c1 hb hlt
    unfold DN.val at *
    rw [hs]
    rw [hs] at HX
    go_enter Tryz.func78, Tryz.ntmps78
    go_wp2_with fail
    go_at_call 116
    refine (HX.out _ (H1.out.below ((Below.refl _ _).alloc (Nat.le_refl _) _))).mono ?_
    rintro e w' ⟨rfl, hb⟩
    have HB : Hid (Below w.heap.size w w') := bel2v ((Below.refl _ _).alloc (Nat.le_refl _) _) hb
    have c1 : w'.cell? ⟨b, off + k * 2 + 1, none⟩ = some (.int .i64 x) := (HB.out.cell HC1.out.2).trans HC1.out.1
    have d2 : w'.cell? ⟨w.heap.size, 2, none⟩ = some (.slice (some ⟨b, off, none⟩) f.n.names.length cap) := by
      rw [hb.cell (by simp)]
      simp
    clear hb
    go_wp2
    go_ret2
    exact ⟨rfl, HB.out⟩
end Go.Proofs.YtbebgobboccjcaaGreatDoor
